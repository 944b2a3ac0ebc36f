/- Walks of cmp.Compare, cmp.Or over two numbers, before: contracts. -/
import Derived.Test.YtjfakhfkbnnbcaaKd
import Derived.StillTailTactics
namespace Go.Proofs.Ytjfakhfkbnnbcaa
open Go.RowKit

def cmpI (a b : Int) : Int := if a < b then -1 else if b < a then 1 else 0
theorem isNaN_any (a : Int) (w : World) : Calls Try.prog 87 #[.int .i64 a] w fun e w' => e = .returned (.bool false) ∧ w = w' := by
  go_enter Try.func87, Try.ntmps87
  go_wp2
  go_ret
  exact ⟨ret_bool (by simp), rfl⟩
theorem cmp_any (a b : Int) (w : World) : Calls Try.prog 66 #[.int .i64 a, .int .i64 b] w fun e w' => e = .returned (.int .i64 (cmpI a b)) ∧ w = w' := by
  rcases Int.lt_trichotomy a b with h | h | h
  · have hE : Hid (cmpI a b = -1) := by unfold Hid cmpI; rw [if_pos h]
    go_enter Try.func66, Try.ntmps66
    go_wp2_with (go_at_call 87; refine (isNaN_any _ _).mono ?_; rintro e w' ⟨rfl, rfl⟩)
    go_ret
    exact ⟨ret_int hE.out.symm, rfl⟩
  · subst h
    have hE : Hid (cmpI a a = 0) := by unfold Hid cmpI; simp
    go_enter Try.func66, Try.ntmps66
    go_wp2_with (go_at_call 87; refine (isNaN_any _ _).mono ?_; rintro e w' ⟨rfl, rfl⟩)
    go_ret
    exact ⟨ret_int hE.out.symm, rfl⟩
  · have hE : Hid (cmpI a b = 1) := by unfold Hid cmpI; rw [if_neg (by omega), if_pos h]
    have h' : ¬ a < b := by omega
    go_enter Try.func66, Try.ntmps66
    go_wp2_with (go_at_call 87; refine (isNaN_any _ _).mono ?_; rintro e w' ⟨rfl, rfl⟩)
    go_ret
    exact ⟨ret_int hE.out.symm, rfl⟩
theorem cmp_q (a b c : Int) (h : cmpI a b = c) (w : World) : Calls Try.prog 66 #[.int .i64 a, .int .i64 b] w fun e w' => e = .returned (.int .i64 c) ∧ w' = w := by
  rw [← h]
  exact (cmp_any a b w).mono fun _ _ ⟨h1, h2⟩ => ⟨h1, h2.symm⟩
def orI (a b : Int) : Int := if a = 0 then b else a
set_option maxHeartbeats 2000000 in
theorem or_any (a b : Int) (v : Value) (w : World) (hr : RowI w v [a, b]) : Calls Try.prog 75 #[v] w fun e w' => e = .returned (.int .i64 (orI a b)) ∧ w = w' := by
  obtain ⟨va, vc, rfl⟩ := hr.shape
  obtain ⟨g, o, hv, c0⟩ := rowI_get (k := 0) hr rfl (by simp)
  subst hv
  obtain ⟨g', o', hv, c1⟩ := rowI_get (k := 1) hr rfl (by simp)
  injection hv with hv
  injection hv with e1 e2
  subst e1 e2
  simp only [List.getElem_cons_zero, List.getElem_cons_succ, List.length_cons, List.length_nil] at c0 c1 ⊢
  rw [Nat.add_zero] at c0
  clear hr
  by_cases h : a = 0
  · have hE : Hid (orI a b = b) := by unfold Hid orI; rw [if_pos h]
    subst h
    by_cases h2 : b = 0
    · subst h2
      go_enter Try.func75, Try.ntmps75
      go_wp2
      refine wp_loop_rounds 3 ?_
      rw [rounds_succ]
      go_wp2
      rw [rounds_succ]
      go_wp2
      rw [rounds_succ]
      go_wp2
      go_ret
      exact ⟨ret_int hE.out.symm, rfl⟩
    · have h2' : (b != 0) = true := by simpa using h2
      clear h2
      go_enter Try.func75, Try.ntmps75
      go_wp2
      refine wp_loop_rounds 3 ?_
      rw [rounds_succ]
      go_wp2
      rw [rounds_succ]
      go_wp2
      go_ret
      exact ⟨ret_int hE.out.symm, rfl⟩
  · have hE : Hid (orI a b = a) := by unfold Hid orI; rw [if_neg h]
    have h' : (a != 0) = true := by simpa using h
    clear h
    go_enter Try.func75, Try.ntmps75
    go_wp2
    refine wp_loop_rounds 3 ?_
    rw [rounds_succ]
    go_wp2
    go_ret
    exact ⟨ret_int hE.out.symm, rfl⟩
end Go.Proofs.Ytjfakhfkbnnbcaa
