/- Walk of SameInts of the reference over two rows of ints: contract. -/
import Derived.Test.YtpkcnojcklmhmaaGt
namespace Go.Proofs.Ytpkcnojcklmhmaa
open Go.RowKit

theorem rows_eq {l m : List Int} (hl : l.length = m.length) (h : ∀ j (h : j < l.length) (h' : j < m.length), j < l.length → l[j] = m[j]) : decide (l = m) = true := by
  rw [decide_eq_true_iff]
  exact List.ext_getElem hl fun j h1 h2 => h j h1 h2 h1
theorem rows_ne {l m : List Int} {k : Nat} (hk : k < l.length) (hk' : k < m.length) (h : l[k] ≠ m[k]) : decide (l = m) = false := by
  rw [decide_eq_false_iff_not]
  rintro rfl
  exact h rfl
theorem RowI.most {w : World} {v : Value} {l : List Int} (h : RowI w v l) : l.length ≤ maxLen := by
  rcases h with ⟨_, _, _, rfl⟩ | ⟨_, _, _, _, h, _⟩
  · simp [maxLen]
  · exact h
set_option maxHeartbeats 2000000 in
theorem sameI_any (w : World) (v u : Value) (l m : List Int) (hl : RowI w v l) (hm : RowI w u m) :
    Calls Try.prog 22 #[v, u] w fun e w' => e = .returned (.bool (decide (l = m))) ∧ ∃ n, w' = w.drewN n := by
  have hM := hl.most
  unfold maxLen at hM
  obtain ⟨a, b, o, cap, rfl, ha, hc, _⟩ := hl.form
  obtain ⟨a', b', o', cap', rfl, ha', hc', _⟩ := hm.form
  have HA := hid ha
  have HA' := hid ha'
  have HC := hid hc
  have HC' := hid hc'
  clear ha ha' hc hc' hl hm
  by_cases hlen : l.length = m.length
  · have h2 : ((l.length : Int) != (m.length : Int)) = false := by simp; omega
    have HL := hid hlen
    clear hlen
    go_enter Try.func22, Try.ntmps22
    go_wp2
    go_loopw [5] (fun i wr => ∃ k : Nat, k ≤ l.length ∧ i = .int .i64 (k : Int) ∧ Hid (∀ j (h : j < l.length) (h' : j < m.length), j < k → l[j] = m[j]) ∧ ∃ n, wr = w.drewN n) (fun i _ => l.length - (intOf i).toNat)
    case atStart => exact ⟨0, Nat.zero_le _, rfl, fun j _ _ h => absurd h (Nat.not_lt_zero _), 0, rfl⟩
    case round =>
      obtain ⟨k, hk, rfl, hok, n, rfl⟩ := hrel
      by_cases hlt : k < l.length
      · have hlm : k < m.length := by have := HL.out; omega
        have ex := HC.out k hlt
        have ey := HC'.out k hlm
        rcases HA.out with h0 | rfl
        · exact absurd hlt (by rw [h0]; simp)
        rcases HA'.out with h0 | rfl
        · exact absurd hlm (by rw [h0]; simp)
        clear HA HA'
        by_cases he : l[k] = m[k]
        · have hst : Hid (∀ j (h : j < l.length) (h' : j < m.length), j < k + 1 → l[j] = m[j]) := fun j hj hj' h => by
            rcases Nat.lt_or_ge j k with h1 | h1
            · exact hok.out j hj hj' h1
            · obtain rfl : j = k := by omega
              exact he
          rw [← he] at ey
          generalize l[k] = x at ex ey
          clear he
          go_wp2
          go_quiet (fail)
          go_wp2
          go_roundw
          case rel => exact ⟨k + 1, by omega, by go_num, hst, by first | exact ⟨_, rfl⟩ | exact ⟨_, World.drewN_drewN _ _ _⟩⟩
          case measure => simp [intOf]; omega
        · have hE := hid (rows_ne hlt hlm he)
          have hne : (l[k] != m[k]) = true := by simpa using he
          generalize l[k] = x at ex hne
          generalize m[k] = y at ey hne
          clear he
          go_wp2
          go_quiet (fail)
          go_wp2
          go_ret
          exact ⟨ret_bool hE.out.symm, by first | exact ⟨_, rfl⟩ | exact ⟨_, World.drewN_drewN _ _ _⟩⟩
      · obtain rfl : k = l.length := by omega
        have hE := hid (rows_eq HL.out hok.out)
        go_wp2
        go_ret
        exact ⟨ret_bool hE.out.symm, n, rfl⟩
  · have h2 : ((l.length : Int) != (m.length : Int)) = true := by simp; omega
    have hE : Hid (decide (l = m) = false) := by rw [Hid, decide_eq_false_iff_not]; exact fun h => hlen (by rw [h])
    clear hlen
    go_enter Try.func22, Try.ntmps22
    go_wp2
    go_ret
    exact ⟨ret_bool hE.out.symm, by first | exact ⟨0, rfl⟩ | exact ⟨_, rfl⟩⟩

end Go.Proofs.Ytpkcnojcklmhmaa
