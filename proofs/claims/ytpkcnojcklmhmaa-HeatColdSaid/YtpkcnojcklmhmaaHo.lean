/- Walk of HeatBetween. -/
import Derived.Test.YtpkcnojcklmhmaaHn
namespace Go.Proofs.Ytpkcnojcklmhmaa
open Go.RowKit

set_option maxHeartbeats 1000000 in
theorem brief_no (a a2 : Option Addr) (n cap n2 cap2 : Nat) (br : Bool) (w : World) (h : ¬ (n ≤ 100 ∧ n2 ≤ 80)) : Calls Try.prog 10 #[.agg #[.slice a n cap, .bool br], .slice a2 n2 cap2] w fun e w' => e = .returned (.bool false) ∧ Below w.heap.size w w' := by
  by_cases h1 : n ≤ 100
  · have d1 : (n : Int) ≤ 100 := by omega
    have d2 : decide ((n2 : Int) ≤ 80) = false := by simp; omega
    go_enter Try.func10, Try.ntmps10
    go_wp2
    go_ret
    exact ⟨rfl, (Below.refl _ _).alloc (Nat.le_refl _) _⟩
  · have d1 : ¬ (n : Int) ≤ 100 := by omega
    go_enter Try.func10, Try.ntmps10
    go_wp2
    go_ret
    exact ⟨rfl, (Below.refl _ _).alloc (Nat.le_refl _) _⟩
set_option maxHeartbeats 1000000 in
theorem brief_yes (a a2 : Option Addr) (n cap n2 cap2 : Nat) (br : Bool) (w : World) (h1 : n ≤ 100) (h2 : n2 ≤ 80) : Calls Try.prog 10 #[.agg #[.slice a n cap, .bool br], .slice a2 n2 cap2] w fun e w' => e = .returned (.bool true) ∧ Below w.heap.size w w' := by
  have d1 : (n : Int) ≤ 100 := by omega
  have d2 : (n2 : Int) ≤ 80 := by omega
  go_enter Try.func10, Try.ntmps10
  go_wp2
  go_ret
  exact ⟨rfl, (Below.refl _ _).alloc (Nat.le_refl _) _⟩

/-- The least and the greatest of a bath and the first k temperatures, or beyond them. -/
structure InR (lo hi bath : Int) (T : List Int) (k : Nat) : Prop where
  b1 : lo ≤ bath
  b2 : bath ≤ hi
  all : ∀ j (h : j < T.length), j < k → lo ≤ T[j] ∧ T[j] ≤ hi
  r1 : -50000 ≤ lo
  r2 : hi ≤ 200000
theorem InR.next {lo hi bath : Int} {T : List Int} {k : Nat} (h : InR lo hi bath T k) (hk : k < T.length) {lo' hi' : Int} (h1 : lo' ≤ lo) (h2 : hi ≤ hi') (h3 : lo' ≤ T[k]) (h4 : T[k] ≤ hi') (h5 : -50000 ≤ lo') (h6 : hi' ≤ 200000) : InR lo' hi' bath T (k + 1) :=
  ⟨by have := h.b1; omega, by have := h.b2; omega, fun j hj hjk => by
    rcases Nat.lt_or_ge j k with g | g
    · have := h.all j hj g; omega
    · obtain rfl : j = k := by omega
      exact ⟨h3, h4⟩, h5, h6⟩

theorem laid2 {w2 W3 : World} {d0 d1 : Value} {T : TypeId} (h : w2.alloc (.cells #[d0, d1] T) = W3) : Below w2.heap.size w2 W3 ∧ W3.cell? ⟨w2.heap.size, 0, none⟩ = some d0 ∧ W3.cell? ⟨w2.heap.size, 1, none⟩ = some d1 := by
  subst h
  exact ⟨(Below.refl _ _).alloc (Nat.le_refl _) _, cell_alloc_new w2 _ T (0, 0) 0, cell_alloc_new w2 _ T (0, 0) 1⟩
theorem runS_one (c : Cn) (x : Bd) (b : Int) : runS c x [b] = tickS c x b := rfl
theorem tickS_in {c : Cn} {x : Bd} {b lo hi : Int} (hc : c.Ok) (hx : Warm c x) (h1 : lo ≤ b) (h2 : b ≤ hi) (h : ∀ j (g : j < x.1.length), lo ≤ x.1[j] ∧ x.1[j] ≤ hi) : ∀ j (g : j < (tickS c x b).1.length), lo ≤ (tickS c x b).1[j] ∧ (tickS c x b).1[j] ≤ hi := by
  obtain ⟨a1, a2, a3⟩ := hc.ra x.2
  intro j g
  exact tickT_bd a1 a2 a3 hx.len (fun t ht => by obtain ⟨i, hi, rfl⟩ := List.getElem_of_mem ht; exact h i hi) ⟨h1, h2⟩ _ (List.getElem_mem g)

end Go.Proofs.Ytpkcnojcklmhmaa
