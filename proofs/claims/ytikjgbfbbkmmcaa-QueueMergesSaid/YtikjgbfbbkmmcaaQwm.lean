/- The statements' baskets and many: contracts; walk of QueueMerges. -/
import Derived.Test.YtikjgbfbbkmmcaaQwk
import Derived.Test.YtikjgbfbbkmmcaaQwl
namespace Go.Proofs.Ytikjgbfbbkmmcaa
open Go.RowKit

set_option maxRecDepth 20000 in
set_option maxHeartbeats 2000000 in
theorem baskets_any (u v : Value) (l m : List Bsk) (w : World) (hu : RowE encB w u l) (hv : RowE encB w v m) : Calls Try.prog 12 #[u, v] w fun e w' => e = .returned (.bool (decide (l = m))) ∧ Below w.heap.size w w' := by
  have HU := hid (fun w1 (g : Below w.heap.size w w1) => hu.keep g)
  have HV := hid (fun w1 (g : Below w.heap.size w w1) => hv.keep g)
  have h1 := hu.most
  have h2 := hv.most
  unfold maxLen at h1 h2
  obtain ⟨ua, uc, rfl⟩ := hu.shape
  obtain ⟨va, vc, rfl⟩ := hv.shape
  obtain ⟨n, hn⟩ : ∃ n, n = l.length := ⟨_, rfl⟩
  obtain ⟨q, hq⟩ : ∃ n, n = m.length := ⟨_, rfl⟩
  have HN := hid hn
  have HQ := hid hq
  rw [← hn] at h1 HU ⊢
  rw [← hq] at h2 HV ⊢
  clear hu hv hn hq
  by_cases hnq : n = q
  case neg =>
    have hnq' : ((n : Int) != (q : Int)) = true := by simp; omega
    have hnq2 : (n != q) = true := by simpa using hnq
    have HE := hid (show decide (l = m) = false from decide_eq_false fun h => hnq (by rw [HN.out, HQ.out, h]))
    clear hnq
    go_enter Try.func12, Try.ntmps12
    go_wp2
    go_ret
    exact ⟨ret_bool HE.out.symm, Below.refl _ _⟩
  subst hnq
  go_enter Try.func12, Try.ntmps12
  go_wp2
  go_loopw [5] (fun t wr => ∃ k : Nat, k ≤ n ∧ t = .int .i64 (k : Int) ∧ Hid (∀ j (h1 : j < l.length) (h2 : j < m.length), j < k → l[j] = m[j]) ∧ Hid (Below w.heap.size w wr)) (fun t _ => n - (intOf t).toNat)
  case atStart => exact ⟨0, Nat.zero_le _, rfl, fun j _ _ h => absurd h (Nat.not_lt_zero j), Below.refl _ _⟩
  case round =>
    obtain ⟨k, hk, rfl, hok, hB⟩ := hrel
    by_cases hlt : k < n
    · have hlt' : (k : Int) < n := by omega
      have k1 : k < l.length := by rw [← HN.out]; exact hlt
      have k2 : k < m.length := by rw [← HQ.out]; exact hlt
      obtain ⟨b, o, hua, c0, c1, c2, c3⟩ := (HU.out _ hB.out).bsk k1
      obtain ⟨b2, o2, hva, d0, d1, d2, d3⟩ := (HV.out _ hB.out).bsk k2
      subst hua hva
      have hne := neqB l[k] m[k]
      have HST := hid (fun (h : l[k] = m[k]) => show ∀ j (h1 : j < l.length) (h2 : j < m.length), j < k + 1 → l[j] = m[j] from fun j g1 g2 g3 => by
        rcases Nat.lt_succ_iff_lt_or_eq.1 g3 with g | rfl
        · exact hok.out j g1 g2 g
        · exact h)
      have HBAD := hid (fun (h : l[k] ≠ m[k]) => show decide (l = m) = false from decide_eq_false fun g => h (by subst g; rfl))
      generalize l[k] = x at *
      generalize m[k] = y at *
      have HLT := hid hlt
      clear hlt k1 k2
      by_cases hxy : x = y
      · have HE := hid (HST.out hxy)
        rw [decide_eq_true hxy] at hne
        simp only [Bool.not_true] at hne
        clear hxy
        go_wp2
        go_quiet (fail)
        have HB2 := hid (bdrewN (n := nq) hB.out)
        go_wp2
        go_roundw
        case rel => exact ⟨k + 1, HLT.out, by go_num, HE, HB2⟩
        case measure => have := HLT.out; simp [intOf]; omega
      · have HE := hid (HBAD.out hxy)
        rw [decide_eq_false hxy] at hne
        simp only [Bool.not_false] at hne
        clear hxy
        go_wp2
        go_quiet (fail)
        have HB2 := hid (bdrewN (n := nq) hB.out)
        go_wp2
        go_ret
        exact ⟨ret_bool HE.out.symm, HB2.out⟩
    · obtain rfl : k = n := by omega
      have HE := hid (show decide (l = m) = true from decide_eq_true (same_bsk (by rw [← HN.out, ← HQ.out]) fun j g1 g2 => hok.out j g1 g2 (by rw [HN.out]; exact g1)))
      go_wp2
      go_ret
      exact ⟨ret_bool HE.out.symm, hB.out⟩
set_option maxRecDepth 20000 in
set_option maxHeartbeats 2000000 in
theorem many_any (v : Value) (l : List Bsk) (m : Nat) (va : Option Addr) (vc : Nat) (w : World) (hr : InB w v l) : Calls Try.prog 9 #[v, .slice va m vc] w fun e w' => ∃ q : Bool, e = .returned (.bool q) ∧ Below w.heap.size w w' := by
  have h1 := hr.1.most
  have HR := hid (fun w1 (g : Below w.heap.size w w1) => hr.1.keep g)
  have HS := hid hr.2
  unfold maxLen at h1
  obtain ⟨ua, uc, rfl⟩ := hr.1.shape
  obtain ⟨n, hn⟩ : ∃ n, n = l.length := ⟨_, rfl⟩
  have HN := hid hn
  rw [← hn] at h1 HR ⊢
  clear hr hn
  by_cases hn4 : 40 < n
  · have hn4' : ((n : Int) > 40) := by omega
    clear hn4
    go_enter Try.func9, Try.ntmps9
    go_wp2
    go_ret
    first | exact ⟨_, rfl, Below.refl _ _⟩ | exact ⟨.inl rfl, Below.refl _ _⟩ | exact ⟨.inr rfl, Below.refl _ _⟩
  have hn4' : ¬ ((n : Int) > 40) := by omega
  clear hn4
  by_cases hm4 : 40 < m
  · have hm4' : ((m : Int) > 40) := by omega
    clear hm4
    go_enter Try.func9, Try.ntmps9
    go_wp2
    go_ret
    first | exact ⟨_, rfl, Below.refl _ _⟩ | exact ⟨.inl rfl, Below.refl _ _⟩ | exact ⟨.inr rfl, Below.refl _ _⟩
  have hm4' : ¬ ((m : Int) > 40) := by omega
  clear hm4
  go_enter Try.func9, Try.ntmps9
  go_wp2
  go_loopw [5] (fun t wr => ∃ k : Nat, k ≤ n ∧ t = .int .i64 (k : Int) ∧ Hid (Below w.heap.size w wr)) (fun t _ => n - (intOf t).toNat)
  case atStart => exact ⟨0, Nat.zero_le _, rfl, Below.refl _ _⟩
  case round =>
    obtain ⟨k, hk, rfl, hB⟩ := hrel
    by_cases hlt : k < n
    · have hlt' : (k : Int) < n := by omega
      have k1 : k < l.length := by rw [← HN.out]; exact hlt
      have hsz := HS.out _ (List.getElem_mem k1)
      unfold maxLen at hsz
      obtain ⟨b, o, hua, c0, c1, c2, c3⟩ := (HR.out _ hB.out).bsk k1
      subst hua
      generalize l[k] = x at *
      have HLT := hid hlt
      clear hlt k1
      by_cases hs : 100 < x.pr.size
      · have hs' : ((x.pr.size : Int) > 100) := by omega
        clear hs
        go_wp2
        go_ret
        first | exact ⟨_, rfl, hB.out⟩ | exact ⟨.inl rfl, hB.out⟩ | exact ⟨.inr rfl, hB.out⟩
      · have hs' : ¬ ((x.pr.size : Int) > 100) := by omega
        clear hs
        go_wp2
        go_roundw
        case rel => exact ⟨k + 1, HLT.out, by go_num, hB⟩
        case measure => have := HLT.out; simp [intOf]; omega
    · obtain rfl : k = n := by omega
      go_wp2
      go_ret
      first | exact ⟨_, rfl, hB.out⟩ | exact ⟨.inl rfl, hB.out⟩ | exact ⟨.inr rfl, hB.out⟩
end Go.Proofs.Ytikjgbfbbkmmcaa
