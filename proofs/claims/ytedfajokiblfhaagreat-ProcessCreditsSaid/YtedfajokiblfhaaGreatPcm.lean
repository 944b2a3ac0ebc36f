/- Walk of TopSterile. -/
import Derived.Test.YtedfajokiblfhaaGreatC8
namespace Go.Proofs.YtedfajokiblfhaaGreat
open Go.RowKit Go.Lib

theorem lowO_bd {r l a b k a2 b2 : Int} {q : Kl} {t : Int} {p : List Int} (h : chk4 (canB r l a b k a2 b2) q.vB t p = 0) : 0 ≤ lowO (sumsO r l a b k a2 b2 q t p) ∧ lowO (sumsO r l a b k a2 b2 q t p) ≤ 1000000000000000000 := by
  obtain ⟨hc, hk, ho, hop, hlen⟩ := chk4_zero h
  obtain ⟨hl1, hl2, _⟩ := sumsO_len h
  have hG : ∀ s ∈ sumsO r l a b k a2 b2 q t p, s ≤ 1000000000000000000 := by
    obtain ⟨c, hcv, rfl, rfl, rfl, rfl, rfl, rfl, rfl⟩ := canB_cn hc
    unfold sumsO
    rw [if_pos h, cnOf_cn]
    exact ((dish0_good ho).run hcv.ok hop).le
  generalize sumsO r l a b k a2 b2 q t p = S at *
  have hne : S ≠ [] := fun e => by rw [e] at hl1; simp at hl1; omega
  unfold lowO
  rw [if_neg hne]
  obtain ⟨n, hn, e⟩ := List.mem_map.1 (show minA (ivN S) ∈ S.map fun (n : Nat) => (n : Int) from minA_mem (by show 0 < (ivN S).length; rw [ivN_len]; omega))
  have := hG n hn
  omega
theorem share_ge {f n : Int} (_h0 : 0 ≤ f) (hn : 0 < n) : decide (1000 ≤ f * 1000 / n) = decide (n ≤ f) := by
  rw [Bool.eq_iff_iff, decide_eq_true_iff, decide_eq_true_iff, Int.le_ediv_iff_mul_le hn]
  omega
end Go.Proofs.YtedfajokiblfhaaGreat
