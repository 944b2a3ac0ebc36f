/- Walk of HeatHotter. -/
import Derived.Test.YtpkcnojcklmhmaaHs
namespace Go.Proofs.Ytpkcnojcklmhmaa
open Go.RowKit

theorem run_shape (r l a b k a2 b2 : Int) (w : World) (v : Value) (T : List Int) (br : Bool) (v2 : Value) (l2 : List Int) (hl : RowI w v T) (hl2 : RowI w v2 l2) :
    Calls Try.prog 15 #[.agg #[.int .i64 r, .int .i64 l, .int .i64 a, .int .i64 b, .int .i64 k, .int .i64 a2, .int .i64 b2], .agg #[v, .bool br], v2] w fun e w' => ∃ (ua : Option Addr) (n cap : Nat) (bu : Bool), e = .returned (.tuple #[.agg #[.slice ua n cap, .bool bu], .int .i64 (chkE (bothB r l a b k a2 b2 T br) l2)]) ∧ Below w.heap.size w w' := by
  rcases chkE_cases (bothB r l a b k a2 b2 T br) l2 with hne | ⟨h0, hbb, ho, hlen⟩
  · exact (run_err r l a b k a2 b2 w v T br v2 l2 hl hl2 hne).mono fun e w' ⟨h, hb⟩ => ⟨_, _, _, _, h, hb⟩
  · rw [h0]
    unfold bothB at hbb
    rw [Bool.and_eq_true] at hbb
    obtain ⟨hcan, hbody⟩ := hbb
    obtain ⟨c, hcv, rfl, rfl, rfl, rfl, rfl, rfl, rfl⟩ := canB_cn hcan
    exact (run_ok c (T, br) v v2 l2 w hcv hbody ho hlen hl hl2).mono fun e w' ⟨u, h, ⟨g, hu, _⟩, hb⟩ => by subst hu; exact ⟨_, _, _, _, h, hb⟩
end Go.Proofs.Ytpkcnojcklmhmaa
