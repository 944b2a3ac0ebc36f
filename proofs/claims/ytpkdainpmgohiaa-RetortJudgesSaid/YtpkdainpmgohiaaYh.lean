/- Walks of the reference's cold and Deviations: contracts. -/
import Derived.Test.YtpkdainpmgohiaaYg
namespace Go.Proofs.Ytpkdainpmgohiaa
open Go.RowKit

theorem OwnT.keep {W w2 : World} {base : Nat} {v : Value} {l : List Tri} (h : OwnT W base v l) (hb : Below W.heap.size W w2) : OwnT w2 base v l := by
  refine ⟨h.1, ?_⟩
  rcases h.2 with hn | ⟨g, cap, cur, rfl, hg, hgg, rest⟩
  · exact .inl hn
  · exact .inr ⟨g, cap, cur, rfl, hg, (hb.block g (Array.getElem?_eq_some_iff.1 hgg).1).trans hgg, rest⟩
set_option maxRecDepth 20000 in
set_option maxHeartbeats 4000000 in
theorem xcold_any (pa : Option Addr) (m pc : Nat) (p : Nat → St) (q : Nat) (t c b : Int) (w : World) (hp : RowP w (.slice pa m pc) m p) (hq : q < m) :
    Calls Try.prog 110 #[.slice pa m pc, .agg #[.int .i64 q, .int .i64 t, .int .i64 c, .int .i64 b]] w fun e w' => e = .returned (.bool (decide ((p q).k = 3) && decide (t < (p q).s))) ∧ Below w.heap.size w w' := by
  have hmm := RowT.most hp
  unfold maxLen at hmm
  have hq' : (q : Int) < m := by omega
  obtain ⟨a2, b2, o2, cap2, hv, _, _, ha2, hcell2⟩ := (show RowP _ _ _ _ from RowT.keep hp ((Below.refl w.heap.size w).alloc (Nat.le_refl _) (.cells #[.int .i64 q, .int .i64 t, .int .i64 c, .int .i64 b] 74)))
  injection hv with hv1 hv2 hv3
  subst hv1 hv3
  rcases ha2 with h0 | rfl
  · omega
  obtain ⟨d0, d1, d2⟩ := hcell2 q hq
  simp only at d0 d1 d2
  clear hcell2 hv2 hp hq d2
  generalize (p q).k = yk at d0
  generalize (p q).s = ys at d1
  have HB := hid ((Below.refl w.heap.size w).alloc (Nat.le_refl _) (.cells #[.int .i64 q, .int .i64 t, .int .i64 c, .int .i64 b] 74))
  by_cases h1 : yk = 3
  · have g1 : (yk == 3) = true := by simpa using h1
    have hE := hid (show decide (t < ys) = (decide (yk = 3) && decide (t < ys)) by rw [decide_eq_true h1]; rfl)
    go_enter Try.func110, Try.ntmps110
    go_wp2
    go_quiet (fail)
    go_wp2
    go_ret
    exact ⟨ret_bool hE.out, bdrewN HB.out⟩
  · have g1 : (yk == 3) = false := by simpa using h1
    have hE := hid (show false = (decide (yk = 3) && decide (t < ys)) by rw [decide_eq_false h1]; rfl)
    go_enter Try.func110, Try.ntmps110
    go_wp2
    go_quiet (fail)
    go_wp2
    go_ret
    exact ⟨ret_bool hE.out, bdrewN HB.out⟩
end Go.Proofs.Ytpkdainpmgohiaa
