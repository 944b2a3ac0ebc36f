/- Walk of RetortCredits. -/
import Derived.Test.YtpkdainpmgohiaaVe
import Derived.Test.YtpkdainpmgohiaaVs
import Derived.Test.YtpkdainpmgohiaaVo
namespace Go.Proofs.Ytpkdainpmgohiaa
open Go.RowKit

theorem below_k2 {w w' : World} (h : ∃ n, w' = w.drewN n) : Below w.heap.size w w' := by obtain ⟨n, rfl⟩ := h; exact bdrewN (Below.refl _ _)
theorem cred_mod {r : Nat → Rd} {n e k : Nat} (h : k % e = 0) : credAt r n e k = (r k).b := by unfold credAt; rw [if_pos (mkB_mod h)]
theorem cred_last {r : Nat → Rd} {n e k : Nat} (h : k + 1 = n) : credAt r n e k = (r k).b := by unfold credAt; rw [if_pos (mkB_last h)]
theorem cred_mid {r : Nat → Rd} {n e k : Nat} (h : k % e ≠ 0) (g : k + 1 ≠ n) : credAt r n e k = min (r (k - k % e)).b (r (nextM n e k)).b := by unfold credAt; rw [mkB_none h g]; rfl
theorem credL_get {r : Nat → Rd} {n e k : Nat} (h : k < (credL r n e n).length) : (credL r n e n)[k] = credAt r n e k := by simp [credL]
theorem cred_one (r : Nat → Rd) (n : Nat) : credL r n 1 n = bathsL r n := by
  unfold credL bathsL
  exact List.map_congr_left fun i _ => cred_mod (Nat.mod_one i)
/-- The marks of a beginning are those of the record, but for the last. -/
theorem marks_beg (r : Nat → Rd) (n N e : Nat) (h : N ≤ n) : marksL r N e N = [] ∨ ∃ F a rest, marksL r N e N = F ++ [a] ∧ marksL r n e n = F ++ rest := by
  rcases Nat.eq_zero_or_pos N with h0 | h0
  · subst h0; exact .inl rfl
  · obtain ⟨k, rfl⟩ : ∃ k, N = k + 1 := ⟨N - 1, by omega⟩
    refine .inr ⟨marksL r n e k, (r k).b, ?_⟩
    have e1 : marksL r (k + 1) e k = marksL r n e k := by
      unfold marksL
      congr 1
      refine List.filter_congr fun j hj => ?_
      have hj := List.mem_range.1 hj
      unfold mkB
      rw [decide_eq_false (show ¬ j + 1 = k + 1 by omega), decide_eq_false (show ¬ j + 1 = n by omega)]
    have e2 : ∀ d, ∃ rest, marksL r n e (k + d) = marksL r n e k ++ rest := by
      intro d
      induction d with
      | zero => exact ⟨[], by simp⟩
      | succ d ih =>
        obtain ⟨rest, hr⟩ := ih
        cases hm : mkB n e (k + d)
        · exact ⟨rest, by rw [← Nat.add_assoc, marksL_no hm, hr]⟩
        · exact ⟨rest ++ [(r (k + d)).b], by rw [← Nat.add_assoc, marksL_yes hm, hr, List.append_assoc]⟩
    obtain ⟨rest, hr⟩ := e2 (n - k)
    rw [show k + (n - k) = n by omega] at hr
    exact ⟨rest, by rw [marksL_yes (mkB_last rfl), e1], hr⟩
theorem marks_beg_at (r : Nat → Rd) (n N e : Nat) (h : N ≤ n) {i : Nat} (hi : i + 1 < (marksL r N e N).length) : ∃ h2 : i < (marksL r n e n).length, (marksL r N e N)[i] = (marksL r n e n)[i] := by
  rcases marks_beg r n N e h with h0 | ⟨F, a, rest, h1, h2⟩
  · rw [h0] at hi; simp at hi
  · have hF : i < F.length := by rw [h1] at hi; simpa using hi
    refine ⟨by rw [h2, List.length_append]; omega, ?_⟩
    simp only [h1, h2]
    rw [List.getElem_append_left hF, List.getElem_append_left hF]
theorem rowI_at {w : World} {v : Value} {l : List Int} (h : RowI w v l) {k : Nat} (hk : k < l.length) : ∃ b o c, v = .slice (some ⟨b, o, none⟩) l.length c ∧ w.cell? ⟨b, o + k, none⟩ = some (.int .i64 l[k]) := by
  rcases h with ⟨a, c, _, rfl⟩ | ⟨b, o, c, hv, _, hc⟩
  · simp at hk
  · exact ⟨b, o, c, hv, hc k hk⟩
theorem rowI_shape {w : World} {v : Value} {l : List Int} (h : RowI w v l) : ∃ a c, v = .slice a l.length c := by
  rcases h with ⟨a, c, hv, rfl⟩ | ⟨b, o, c, hv, _, hc⟩
  · exact ⟨a, c, hv⟩
  · exact ⟨_, c, hv⟩
theorem rowR_beg {w : World} {va : Option Addr} {n vc N : Nat} {r : Nat → Rd} (h : RowR w (.slice va n vc) n r) (hN : N ≤ n) : RowR w (.slice va N N) N r := by
  obtain ⟨a', b', o', cap', hv, g1, g2, g3, g4⟩ := h
  injection hv with hv1 hv2 hv3
  subst hv1
  refine ⟨va, b', o', N, rfl, Nat.le_refl _, by omega, ?_, fun k hk => g4 k (by omega)⟩
  rcases g3 with h0 | h0
  · exact .inl (by omega)
  · exact .inr h0
set_option maxRecDepth 20000 in
theorem slice_beg {va : Option Addr} {n vc N : Nat} {r : Nat → Rd} {w : World} (h : RowR w (.slice va n vc) n r) (hN : N ≤ n) (W : World) :
    (Instr.sliceAt 61 (.slice va n vc) none (some (.int .i64 (N : Int))) (some (.int .i64 (N : Int)))).run Try.prog W = .ok (.slice va N N) W := by
  obtain ⟨a', b', o', cap', hv, g1, g2, g3, g4⟩ := h
  injection hv with hv1 hv2 hv3
  subst hv1 hv3
  have h1 : (N : Int) ≤ (vc : Int) := by omega
  rcases Nat.eq_zero_or_pos N with h0 | h0
  · subst h0
    simp [go_sem, Try.underlying61]
  · rcases g3 with h2 | rfl
    · omega
    · have h3 : ¬ N = 0 := by omega
      simp [go_sem, Try.underlying61, h1, h3]
end Go.Proofs.Ytpkdainpmgohiaa
