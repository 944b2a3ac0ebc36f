/- Walk of HeatHotter where it says nothing: its five early ways out. -/
import Derived.Test.YtpkcnojcklmhmaaHr
namespace Go.Proofs.Ytpkcnojcklmhmaa
open Go.RowKit

theorem brief_any (a a2 : Option Addr) (n cap n2 cap2 : Nat) (br : Bool) (w : World) : Calls Try.prog 10 #[.agg #[.slice a n cap, .bool br], .slice a2 n2 cap2] w fun e w' => e = .returned (.bool (decide (n ≤ 100 ∧ n2 ≤ 80))) ∧ Below w.heap.size w w' := by
  by_cases h : n ≤ 100 ∧ n2 ≤ 80
  · rw [decide_eq_true h]; exact brief_yes a a2 n cap n2 cap2 br w h.1 h.2
  · rw [decide_eq_false h]; exact brief_no a a2 n cap n2 cap2 br w h
/-- Run's error is chkE's, whatever comes back with it. -/
theorem run_code (r l a b k a2 b2 : Int) (w : World) (v : Value) (T : List Int) (br : Bool) (v2 : Value) (l2 : List Int) (hl : RowI w v T) (hl2 : RowI w v2 l2) :
    Calls Try.prog 15 #[.agg #[.int .i64 r, .int .i64 l, .int .i64 a, .int .i64 b, .int .i64 k, .int .i64 a2, .int .i64 b2], .agg #[v, .bool br], v2] w fun e w' => ∃ (u : Value) (bu : Bool), e = .returned (.tuple #[.agg #[u, .bool bu], .int .i64 (chkE (bothB r l a b k a2 b2 T br) l2)]) ∧ Below w.heap.size w w' := by
  rcases chkE_cases (bothB r l a b k a2 b2 T br) l2 with hne | ⟨h0, hbb, ho, hlen⟩
  · exact (run_err r l a b k a2 b2 w v T br v2 l2 hl hl2 hne).mono fun e w' ⟨h, hb⟩ => ⟨_, _, h, hb⟩
  · rw [h0]
    unfold bothB at hbb
    rw [Bool.and_eq_true] at hbb
    obtain ⟨hcan, hbody⟩ := hbb
    obtain ⟨c, hcv, rfl, rfl, rfl, rfl, rfl, rfl, rfl⟩ := canB_cn hcan
    exact (run_ok c (T, br) v v2 l2 w hcv hbody ho hlen hl hl2).mono fun e w' ⟨u, h, _, hb⟩ => ⟨_, _, h, hb⟩
end Go.Proofs.Ytpkcnojcklmhmaa
