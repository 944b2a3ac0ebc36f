/- The statements' ints: contract; lists of ints that come in. -/
import Derived.Test.YtikjgbfbbkmmcaaQxc
import Derived.Test.YtikjgbfbbkmmcaaQwl
namespace Go.Proofs.Ytikjgbfbbkmmcaa
open Go.RowKit

theorem RowI.mostI {w : World} {v : Value} {l : List Int} (h : RowI w v l) : l.length ≤ maxLen := by
  rcases h with ⟨_, _, _, rfl⟩ | ⟨_, _, _, _, h, _⟩
  · exact Nat.zero_le _
  · exact h
set_option maxRecDepth 20000 in
set_option maxHeartbeats 2000000 in
theorem ints_any (u v : Value) (l m : List Int) (w : World) (hu : RowI w u l) (hv : RowI w v m) : Calls Try.prog 31 #[u, v] w fun e w' => e = .returned (.bool (decide (l = m))) ∧ Below w.heap.size w w' := by
  have HU := hid (fun w1 (g : Below w.heap.size w w1) => hu.keep g)
  have HV := hid (fun w1 (g : Below w.heap.size w w1) => hv.keep g)
  have h1 := hu.mostI
  have h2 := hv.mostI
  unfold maxLen at h1 h2
  obtain ⟨ua, uc, rfl⟩ := hu.shape
  obtain ⟨va, vc, rfl⟩ := hv.shape
  obtain ⟨n, hn⟩ : ∃ n, n = l.length := ⟨_, rfl⟩
  obtain ⟨q, hq⟩ : ∃ n, n = m.length := ⟨_, rfl⟩
  have HN := hid hn
  have HQ := hid hq
  rw [← hn] at h1 HU ⊢
  rw [← hq] at h2 HV ⊢
  clear hu hv hn hq
  by_cases hnq : n = q
  case neg =>
    have hnq' : ((n : Int) != (q : Int)) = true := by simp; omega
    have hnq2 : (n != q) = true := by simpa using hnq
    have HE := hid (show decide (l = m) = false from decide_eq_false fun h => hnq (by rw [HN.out, HQ.out, h]))
    clear hnq
    go_enter Try.func31, Try.ntmps31
    go_wp2
    go_ret
    exact ⟨ret_bool HE.out.symm, Below.refl _ _⟩
  subst hnq
  go_enter Try.func31, Try.ntmps31
  go_wp2
  go_loopw [5] (fun t wr => ∃ k : Nat, k ≤ n ∧ t = .int .i64 (k : Int) ∧ Hid (∀ j (h1 : j < l.length) (h2 : j < m.length), j < k → l[j] = m[j]) ∧ Hid (Below w.heap.size w wr)) (fun t _ => n - (intOf t).toNat)
  case atStart => exact ⟨0, Nat.zero_le _, rfl, fun j _ _ h => absurd h (Nat.not_lt_zero j), Below.refl _ _⟩
  case round =>
    obtain ⟨k, hk, rfl, hok, hB⟩ := hrel
    by_cases hlt : k < n
    · have hlt' : (k : Int) < n := by omega
      have k1 : k < l.length := by rw [← HN.out]; exact hlt
      have k2 : k < m.length := by rw [← HQ.out]; exact hlt
      obtain ⟨b, o, hua, c0⟩ := rowI_get (k := k) (HU.out _ hB.out) (by rw [HN.out]) k1
      obtain ⟨b2, o2, hva, d0⟩ := rowI_get (k := k) (HV.out _ hB.out) (by rw [HQ.out]) k2
      subst hua hva
      have HST := hid (fun (h : l[k] = m[k]) => show ∀ j (h1 : j < l.length) (h2 : j < m.length), j < k + 1 → l[j] = m[j] from fun j g1 g2 g3 => by
        rcases Nat.lt_succ_iff_lt_or_eq.1 g3 with g | rfl
        · exact hok.out j g1 g2 g
        · exact h)
      have HBAD := hid (fun (h : l[k] ≠ m[k]) => show decide (l = m) = false from decide_eq_false fun g => h (by subst g; rfl))
      generalize l[k] = x at *
      generalize m[k] = y at *
      have HLT := hid hlt
      clear hlt k1 k2
      by_cases hxy : x = y
      · have HE := hid (HST.out hxy)
        have hne : (x != y) = false := by simpa using hxy
        clear hxy
        go_wp2
        go_quiet (fail)
        have HB2 := hid (bdrewN (n := nq) hB.out)
        go_wp2
        go_roundw
        case rel => exact ⟨k + 1, HLT.out, by go_num, HE, HB2⟩
        case measure => have := HLT.out; simp [intOf]; omega
      · have HE := hid (HBAD.out hxy)
        have hne : (x != y) = true := by simpa using hxy
        clear hxy
        go_wp2
        go_quiet (fail)
        have HB2 := hid (bdrewN (n := nq) hB.out)
        go_wp2
        go_ret
        exact ⟨ret_bool HE.out.symm, HB2.out⟩
    · obtain rfl : k = n := by omega
      have HE := hid (show decide (l = m) = true from decide_eq_true (List.ext_getElem (by rw [← HN.out, ← HQ.out]) fun j g1 g2 => hok.out j g1 g2 (by rw [HN.out]; exact g1)))
      go_wp2
      go_ret
      exact ⟨ret_bool HE.out.symm, hB.out⟩
end Go.Proofs.Ytikjgbfbbkmmcaa
