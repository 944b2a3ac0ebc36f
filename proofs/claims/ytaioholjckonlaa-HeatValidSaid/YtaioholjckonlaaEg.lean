/- Plain math of even bodies; Stirred of both. -/
import Derived.Test.YtaioholjckonlaaEf
namespace Go.Proofs.Ytaioholjckonlaa
open Go.RowKit

theorem nearT_even {R L : Nat} {t : Int} (r l : Int) : nearT R L (List.replicate (R * L) t) t r l = t := by
  by_cases h : 0 ≤ r ∧ r < R ∧ 0 ≤ l ∧ l < L
  · obtain ⟨p, q, rfl, rfl, hp, hq, _⟩ := idx_nat h
    have hidx := idx_lt hp hq
    unfold Cn.P at *
    rw [nearT_in ⟨by omega, by omega, by omega, by omega⟩, ← Int.natCast_mul, ← Int.natCast_add, Int.toNat_natCast]
    simp [List.getD, List.getElem?_replicate, hidx]
  · exact nearT_out h
theorem mixT_even {R L : Nat} {A B t : Int} (r l : Nat) : mixT R L A B (List.replicate (R * L) t) t r l = t := by
  unfold mixT
  rw [nearT_even, nearT_even, nearT_even, nearT_even, nearT_even, num_const]
  exact Int.mul_ediv_cancel _ (by have := wide_pos r; omega)
theorem tickT_even {R L : Nat} {A B t : Int} : tickT R L A B (List.replicate (R * L) t) t = List.replicate (R * L) t := by
  apply List.ext_getElem (by rw [tickT_len, List.length_replicate])
  intro i h1 h2
  rw [tickT_get, mixT_even, List.getElem_replicate]
theorem minT_even {n : Nat} {t : Int} (h : 0 < n) : minT (List.replicate n t) = t := by
  have := minT_mem (List.replicate n t) (by rw [List.length_replicate]; exact h)
  exact List.eq_of_mem_replicate this
/-- An even body. -/
def evB (c : Cn) (t : Int) : Bd := (List.replicate c.P t, decide (0 < c.K) && decide (c.K ≤ t))
theorem tickS_even {c : Cn} (hc : c.Ok) (t : Int) : tickS c (evB c t) t = evB c t := by
  have hp := hc.p
  unfold tickS evB
  dsimp only
  have e : tickT c.R c.L (c.a (decide (0 < c.K) && decide (c.K ≤ t))) (c.b (decide (0 < c.K) && decide (c.K ≤ t))) (List.replicate c.P t) t = List.replicate c.P t := tickT_even
  rw [e]
  unfold brk
  rw [minT_even (by omega), Bool.or_self]
theorem evB_valid {c : Cn} {t : Int} (ho : okT t = true) : bodyV c (evB c t).1 (evB c t).2 = true := by
  refine bodyV_iff.2 ⟨by simp [evB], ?_, okL_of fun x hx => ?_⟩
  · by_cases h : c.K = 0
    · left; simp [evB, h]
    · exact .inr h
  · have := List.eq_of_mem_replicate hx
    subst this
    simpa [okT] using ho
/-- The body behind n ticks in a constant bath, which is no colder. -/
def evR (c : Cn) (t bath : Int) (n : Nat) : Bd := runS c (evB c t) (List.replicate n bath)
theorem evR_succ (c : Cn) (t bath : Int) (n : Nat) : evR c t bath (n + 1) = tickS c (evR c t bath n) bath := by
  unfold evR
  rw [List.replicate_succ', runS_append]
  rfl
theorem evR_valid {c : Cn} (hc : c.Ok) {t bath : Int} (ho : okT t = true) (hb : okT bath = true) (n : Nat) : bodyV c (evR c t bath n).1 (evR c t bath n).2 = true :=
  body_run hc (evB_valid ho) (okL_of fun x hx => by have := List.eq_of_mem_replicate hx; subst this; simpa [okT] using hb)
theorem evR_cold {c : Cn} (hK : c.K = 0) {t bath : Int} (n : Nat) : (evR c t bath n).2 = false := runS_brk hK _ _ (by simp [evB, hK])
theorem evR_le {c : Cn} (hc : c.Ok) (hK : c.K = 0) {t bath : Int} (ho : okT t = true) (hb : okT bath = true) (hle : t ≤ bath) : ∀ n, leL (evR c t bath n).1 (evR c t bath (n + 1)).1
  | 0 => by
    rw [evR_succ]
    intro i a d
    obtain ⟨a1, a2, a3⟩ := hc.ra (evR c t bath 0).2
    have h0 : (evR c t bath 0).1 = List.replicate c.P t := rfl
    have e : (evR c t bath 0).1[i] = t := by simp [h0]
    rw [e]
    have hlen : (evR c t bath 0).1.length = c.R * c.L := by rw [h0]; simp [Cn.P]
    exact (tickT_bd (lo := t) (hi := bath) a1 a2 a3 hlen (fun x hx => by rw [h0] at hx; have := List.eq_of_mem_replicate hx; omega) ⟨hle, Int.le_refl _⟩ _ (List.getElem_mem d)).1
  | n + 1 => by
    have ih := evR_le hc hK ho hb hle n
    have h1 := bodyV_iff.1 (evR_valid hc ho hb n)
    have h2 := bodyV_iff.1 (evR_valid hc ho hb (n + 1))
    have c1 := evR_cold hK (t := t) (bath := bath) n
    have c2 := evR_cold hK (t := t) (bath := bath) (n + 1)
    have e2 := evR_succ c t bath (n + 1)
    have e1 := evR_succ c t bath n
    generalize evR c t bath n = X at *
    generalize evR c t bath (n + 1) = Y at *
    obtain ⟨T, bt⟩ := X
    obtain ⟨U, bu⟩ := Y
    dsimp only at c1 c2 ih h1 h2
    subst c1 c2
    rw [e2, tickS_cold hK]
    rw [tickS_cold hK] at e1
    obtain ⟨a1, a2, a3⟩ := hc.ra false
    have e3 : U = tickT c.R c.L (c.a false) (c.b false) T bath := by have := congrArg Prod.fst e1; exact this
    have h : leL (tickT c.R c.L (c.a false) (c.b false) T bath) (tickT c.R c.L (c.a false) (c.b false) U bath) := tickT_le a1 a2 a3 h1.1 h2.1 ih (Int.le_refl _)
    rw [← e3] at h
    exact h

/-- How many places seven numbers tell of. -/
def plcs (r l a b k a2 b2 : Int) : Nat := if canB r l a b k a2 b2 then (cnOf r l a b k a2 b2).P else 0
theorem places_any (r l a b k a2 b2 : Int) (w : World) : Calls Try.prog 23 #[.agg #[.int .i64 r, .int .i64 l, .int .i64 a, .int .i64 b, .int .i64 k, .int .i64 a2, .int .i64 b2]] w fun e w' => e = .returned (.int .i64 (plcs r l a b k a2 b2 : Nat)) ∧ Below w.heap.size w w' := by
  cases hc : canB r l a b k a2 b2
  · rw [show plcs r l a b k a2 b2 = 0 by unfold plcs; rw [if_neg (by rw [hc]; simp)]]
    exact places_no _ _ _ _ _ _ _ _ hc
  · rw [show plcs r l a b k a2 b2 = (cnOf r l a b k a2 b2).P by unfold plcs; rw [if_pos hc]]
    obtain ⟨c, hcv, rfl, rfl, rfl, rfl, rfl, rfl, rfl⟩ := canB_cn hc
    rw [cnOf_cn]
    exact places_yes c w hcv
theorem rplaces_any (r l a b k a2 b2 : Int) (w : World) : Calls Try.prog 24 #[.agg #[.int .i64 r, .int .i64 l, .int .i64 a, .int .i64 b, .int .i64 k, .int .i64 a2, .int .i64 b2]] w fun e w' => e = .returned (.int .i64 (plcs r l a b k a2 b2 : Nat)) ∧ Below w.heap.size w w' := by
  cases hc : canB r l a b k a2 b2
  · rw [show plcs r l a b k a2 b2 = 0 by unfold plcs; rw [if_neg (by rw [hc]; simp)]]
    exact rplaces_no _ _ _ _ _ _ _ _ hc
  · rw [show plcs r l a b k a2 b2 = (cnOf r l a b k a2 b2).P by unfold plcs; rw [if_pos hc]]
    obtain ⟨c, hcv, rfl, rfl, rfl, rfl, rfl, rfl, rfl⟩ := canB_cn hc
    rw [cnOf_cn]
    exact rplaces_yes c w hcv
set_option maxHeartbeats 1000000 in
theorem stir_any (r l a b k a2 b2 : Int) (w : World) : Calls Try.prog 25 #[.agg #[.int .i64 r, .int .i64 l, .int .i64 a, .int .i64 b, .int .i64 k, .int .i64 a2, .int .i64 b2]] w fun e w' => e = .returned (.bool ((plcs r l a b k a2 b2 : Int) == 1)) ∧ Below w.heap.size w w' := by
  obtain ⟨q, hq⟩ : ∃ q, q = (((plcs r l a b k a2 b2 : Nat) : Int) == 1) := ⟨_, rfl⟩
  rw [← hq]
  have HQ := hid hq
  clear hq
  go_enter Try.func25, Try.ntmps25
  go_wp2_with fail
  refine (places_any _ _ _ _ _ _ _ _).mono ?_
  rintro e w1 ⟨rfl, hb⟩
  go_wp2_with fail
  go_ret
  exact ⟨ret_bool HQ.out.symm, balloc hb⟩
set_option maxHeartbeats 1000000 in
theorem rstir_any (r l a b k a2 b2 : Int) (w : World) : Calls Try.prog 26 #[.agg #[.int .i64 r, .int .i64 l, .int .i64 a, .int .i64 b, .int .i64 k, .int .i64 a2, .int .i64 b2]] w fun e w' => e = .returned (.bool ((plcs r l a b k a2 b2 : Int) == 1)) ∧ Below w.heap.size w w' := by
  obtain ⟨q, hq⟩ : ∃ q, q = (((plcs r l a b k a2 b2 : Nat) : Int) == 1) := ⟨_, rfl⟩
  rw [← hq]
  have HQ := hid hq
  clear hq
  go_enter Try.func26, Try.ntmps26
  go_wp2_with fail
  refine (rplaces_any _ _ _ _ _ _ _ _).mono ?_
  rintro e w1 ⟨rfl, hb⟩
  go_wp2_with fail
  go_ret
  exact ⟨ret_bool HQ.out.symm, balloc hb⟩
end Go.Proofs.Ytaioholjckonlaa
