/- Walks of SameInts, Same and Below of both: contracts. -/
import Derived.Test.YtpkcnojcklmhmaaHn
namespace Go.Proofs.Ytpkcnojcklmhmaa
open Go.RowKit

/-- Whether a is nowhere above b. -/
def belowB : List Int → List Int → Bool
  | [], [] => true
  | a :: l, b :: m => !decide (a > b) && belowB l m
  | _, _ => false
theorem belowB_len : ∀ {l m : List Int}, l.length ≠ m.length → belowB l m = false
  | [], [], h => absurd rfl h
  | [], _ :: _, _ => rfl
  | _ :: _, [], _ => rfl
  | a :: l, b :: m, h => by simp [belowB, belowB_len (l := l) (m := m) (by simpa using h)]
theorem belowB_iff : ∀ {l m : List Int}, l.length = m.length → (belowB l m = true ↔ ∀ j (h : j < l.length) (h' : j < m.length), l[j] ≤ m[j])
  | [], [], _ => by simp [belowB]
  | [], _ :: _, h => by simp at h
  | _ :: _, [], h => by simp at h
  | a :: l, b :: m, h => by
    have hl : l.length = m.length := by simpa using h
    simp only [belowB, Bool.and_eq_true, belowB_iff hl]
    constructor
    · rintro ⟨h0, h1⟩ j hj hj'
      cases j with
      | zero => simpa using h0
      | succ j => simpa using h1 j (by simpa using hj) (by simpa using hj')
    · intro h0
      have h1 : a ≤ b := h0 0 (by simp) (by simp)
      exact ⟨by simpa using h1, fun j hj hj' => h0 (j + 1) (by simpa using hj) (by simpa using hj')⟩
theorem belowB_bad {l m : List Int} {k : Nat} (hk : k < l.length) (hk' : k < m.length) (h : l[k] > m[k]) : belowB l m = false := by
  by_cases hl : l.length = m.length
  · rw [Bool.eq_false_iff]
    intro h0
    have := (belowB_iff hl).1 h0 k hk hk'
    omega
  · exact belowB_len hl
theorem rows_eq {l m : List Int} (hl : l.length = m.length) (h : ∀ j (h : j < l.length) (h' : j < m.length), j < l.length → l[j] = m[j]) : decide (l = m) = true := by
  rw [decide_eq_true_iff]
  exact List.ext_getElem hl fun j h1 h2 => h j h1 h2 h1
theorem rows_ne {l m : List Int} {k : Nat} (hk : k < l.length) (hk' : k < m.length) (h : l[k] ≠ m[k]) : decide (l = m) = false := by
  rw [decide_eq_false_iff_not]
  rintro rfl
  exact h rfl
theorem RowI.most {w : World} {v : Value} {l : List Int} (h : RowI w v l) : l.length ≤ maxLen := by
  rcases h with ⟨_, _, _, rfl⟩ | ⟨_, _, _, _, h, _⟩
  · simp [maxLen]
  · exact h
theorem four_start {w : World} {c0 c1 d0 d1 : Value} {T T' : TypeId} {fz fz' : Nat × Nat} :
    (((w.alloc (.cells #[c0, c1] T fz)).alloc (.cells #[d0, d1] T' fz')).cell? ⟨w.heap.size, 0, none⟩ = some c0 ∧ ((w.alloc (.cells #[c0, c1] T fz)).alloc (.cells #[d0, d1] T' fz')).cell? ⟨w.heap.size, 1, none⟩ = some c1) ∧ (((w.alloc (.cells #[c0, c1] T fz)).alloc (.cells #[d0, d1] T' fz')).cell? ⟨w.heap.size + 1, 0, none⟩ = some d0 ∧ ((w.alloc (.cells #[c0, c1] T fz)).alloc (.cells #[d0, d1] T' fz')).cell? ⟨w.heap.size + 1, 1, none⟩ = some d1) ∧ Below w.heap.size w ((w.alloc (.cells #[c0, c1] T fz)).alloc (.cells #[d0, d1] T' fz')) := by
  have h := box2_start (w := w) (A := #[c0, c1]) (B := #[d0, d1]) (T := T) (T' := T') (fz := fz) (fz' := fz')
  exact ⟨⟨h.fst 0, h.fst 1⟩, ⟨h.snd 0, h.snd 1⟩, h.low⟩

set_option maxHeartbeats 2000000 in
theorem sameI_any (w : World) (v u : Value) (l m : List Int) (hl : RowI w v l) (hm : RowI w u m) :
    Calls Try.prog 22 #[v, u] w fun e w' => e = .returned (.bool (decide (l = m))) ∧ ∃ n, w' = w.drewN n := by
  have hM := hl.most
  unfold maxLen at hM
  obtain ⟨a, b, o, cap, rfl, ha, hc, _⟩ := hl.form
  obtain ⟨a', b', o', cap', rfl, ha', hc', _⟩ := hm.form
  have HA := hid ha
  have HA' := hid ha'
  have HC := hid hc
  have HC' := hid hc'
  clear ha ha' hc hc' hl hm
  by_cases hlen : l.length = m.length
  · have h2 : ((l.length : Int) != (m.length : Int)) = false := by simp; omega
    have HL := hid hlen
    clear hlen
    go_enter Try.func22, Try.ntmps22
    go_wp2
    go_loopw [5] (fun i wr => ∃ k : Nat, k ≤ l.length ∧ i = .int .i64 (k : Int) ∧ Hid (∀ j (h : j < l.length) (h' : j < m.length), j < k → l[j] = m[j]) ∧ ∃ n, wr = w.drewN n) (fun i _ => l.length - (intOf i).toNat)
    case atStart => exact ⟨0, Nat.zero_le _, rfl, fun j _ _ h => absurd h (Nat.not_lt_zero _), 0, rfl⟩
    case round =>
      obtain ⟨k, hk, rfl, hok, n, rfl⟩ := hrel
      by_cases hlt : k < l.length
      · have hlm : k < m.length := by have := HL.out; omega
        have ex := HC.out k hlt
        have ey := HC'.out k hlm
        rcases HA.out with h0 | rfl
        · exact absurd hlt (by rw [h0]; simp)
        rcases HA'.out with h0 | rfl
        · exact absurd hlm (by rw [h0]; simp)
        clear HA HA'
        by_cases he : l[k] = m[k]
        · have hst : Hid (∀ j (h : j < l.length) (h' : j < m.length), j < k + 1 → l[j] = m[j]) := fun j hj hj' h => by
            rcases Nat.lt_or_ge j k with h1 | h1
            · exact hok.out j hj hj' h1
            · obtain rfl : j = k := by omega
              exact he
          rw [← he] at ey
          generalize l[k] = x at ex ey
          clear he
          go_wp2
          go_quiet (fail)
          go_wp2
          go_roundw
          case rel => exact ⟨k + 1, by omega, by go_num, hst, by first | exact ⟨_, rfl⟩ | exact ⟨_, World.drewN_drewN _ _ _⟩⟩
          case measure => simp [intOf]; omega
        · have hE := hid (rows_ne hlt hlm he)
          have hne : (l[k] != m[k]) = true := by simpa using he
          generalize l[k] = x at ex hne
          generalize m[k] = y at ey hne
          clear he
          go_wp2
          go_quiet (fail)
          go_wp2
          go_ret
          exact ⟨ret_bool hE.out.symm, by first | exact ⟨_, rfl⟩ | exact ⟨_, World.drewN_drewN _ _ _⟩⟩
      · obtain rfl : k = l.length := by omega
        have hE := hid (rows_eq HL.out hok.out)
        go_wp2
        go_ret
        exact ⟨ret_bool hE.out.symm, n, rfl⟩
  · have h2 : ((l.length : Int) != (m.length : Int)) = true := by simp; omega
    have hE : Hid (decide (l = m) = false) := by rw [Hid, decide_eq_false_iff_not]; exact fun h => hlen (by rw [h])
    clear hlen
    go_enter Try.func22, Try.ntmps22
    go_wp2
    go_ret
    exact ⟨ret_bool hE.out.symm, by first | exact ⟨0, rfl⟩ | exact ⟨_, rfl⟩⟩

set_option maxHeartbeats 4000000 in
theorem hbelow_any (w : World) (v u : Value) (l m : List Int) (br br2 : Bool) (hl : RowI w v l) (hm : RowI w u m) :
    Calls Try.prog 28 #[.agg #[v, .bool br], .agg #[u, .bool br2]] w fun e w' => e = .returned (.bool (belowB l m)) ∧ Below w.heap.size w w' := by
  have hM := hl.most
  unfold maxLen at hM
  obtain ⟨a, b, o, cap, rfl, ha, hc, _⟩ := hl.form
  obtain ⟨a', b', o', cap', rfl, ha', hc', _⟩ := hm.form
  have HA := hid ha
  have HA' := hid ha'
  obtain ⟨⟨b0, b1⟩, ⟨x0, x1⟩, hB⟩ := four_start (w := w) (c0 := .slice a l.length cap) (c1 := .bool br) (d0 := .slice a' m.length cap') (d1 := .bool br2) (T := 26) (T' := 26) (fz := (0, 0)) (fz' := (0, 0))
  have HC := hid (fun j h => keep_cell hB (hc j h))
  have HC' := hid (fun j h => keep_cell hB (hc' j h))
  have HB := hid hB
  clear ha ha' hc hc' hl hm hB
  by_cases hlen : l.length = m.length
  · have h2 : ((l.length : Int) != (m.length : Int)) = false := by simp; omega
    have HL := hid hlen
    clear hlen
    go_enter Try.func28, Try.ntmps28
    go_wp2
    go_loop [17] (fun i => ∃ k : Nat, k ≤ l.length ∧ i = .int .i64 (k : Int) ∧ Hid (∀ j (h : j < l.length) (h' : j < m.length), j < k → l[j] ≤ m[j])) (fun i => l.length - (intOf i).toNat)
    case atStart => exact ⟨0, Nat.zero_le _, rfl, fun j _ _ h => absurd h (Nat.not_lt_zero _)⟩
    case round =>
      obtain ⟨k, hk, rfl, hok⟩ := hrel
      by_cases hlt : k < l.length
      · have hlm : k < m.length := by have := HL.out; omega
        have hlt' : (k : Int) < l.length := by omega
        have ex := HC.out k hlt
        have ey := HC'.out k hlm
        rcases HA.out with h0 | rfl
        · exact absurd hlt (by rw [h0]; simp)
        rcases HA'.out with h0 | rfl
        · exact absurd hlm (by rw [h0]; simp)
        clear HA HA'
        by_cases he : l[k] > m[k]
        · have hE := hid (belowB_bad hlt hlm he)
          generalize l[k] = x at ex he
          generalize m[k] = y at ey he
          have he' : y < x := he
          clear he
          go_wp2
          go_ret
          exact ⟨ret_bool hE.out.symm, by first | exact HB.out | exact bdrewN HB.out | exact bdrewN (bdrewN HB.out)⟩
        · have hst : Hid (∀ j (h : j < l.length) (h' : j < m.length), j < k + 1 → l[j] ≤ m[j]) := fun j hj hj' h => by
            rcases Nat.lt_or_ge j k with h1 | h1
            · exact hok.out j hj hj' h1
            · obtain rfl : j = k := by omega
              omega
          generalize l[k] = x at ex he
          generalize m[k] = y at ey he
          have he' : ¬ y < x := he
          clear he
          go_wp2
          go_round
          case rel => exact ⟨k + 1, by omega, by go_num, hst⟩
          case measure => simp [intOf]; omega
      · obtain rfl : k = l.length := by omega
        have hE := hid ((belowB_iff HL.out).2 fun j h h' => hok.out j h h' h)
        go_wp2
        go_ret
        exact ⟨ret_bool hE.out.symm, by first | exact HB.out | exact bdrewN HB.out | exact bdrewN (bdrewN HB.out)⟩
  · have h2 : ((l.length : Int) != (m.length : Int)) = true := by simp; omega
    have hE := hid (belowB_len hlen)
    clear hlen
    go_enter Try.func28, Try.ntmps28
    go_wp2
    go_ret
    exact ⟨ret_bool hE.out.symm, by first | exact HB.out | exact bdrewN HB.out | exact bdrewN (bdrewN HB.out)⟩

set_option maxHeartbeats 4000000 in
theorem rbelow_any (w : World) (v u : Value) (l m : List Int) (br br2 : Bool) (hl : RowI w v l) (hm : RowI w u m) :
    Calls Try.prog 29 #[.agg #[v, .bool br], .agg #[u, .bool br2]] w fun e w' => e = .returned (.bool (belowB l m)) ∧ Below w.heap.size w w' := by
  have hM := hl.most
  unfold maxLen at hM
  obtain ⟨a, b, o, cap, rfl, ha, hc, _⟩ := hl.form
  obtain ⟨a', b', o', cap', rfl, ha', hc', _⟩ := hm.form
  have HA := hid ha
  have HA' := hid ha'
  obtain ⟨⟨b0, b1⟩, ⟨x0, x1⟩, hB⟩ := four_start (w := w) (c0 := .slice a l.length cap) (c1 := .bool br) (d0 := .slice a' m.length cap') (d1 := .bool br2) (T := 26) (T' := 26) (fz := (0, 0)) (fz' := (0, 0))
  have HC := hid (fun j h => keep_cell hB (hc j h))
  have HC' := hid (fun j h => keep_cell hB (hc' j h))
  have HB := hid hB
  clear ha ha' hc hc' hl hm hB
  by_cases hlen : l.length = m.length
  · have h2 : ((l.length : Int) != (m.length : Int)) = false := by simp; omega
    have HL := hid hlen
    clear hlen
    go_enter Try.func29, Try.ntmps29
    go_wp2
    generalize hW : World.alloc (World.alloc w _) _ = W1
    rw [hW] at HC HC' b0 b1 x0 x1 HB
    clear hW
    go_loopw [5] (fun i wr => ∃ k : Nat, k ≤ l.length ∧ i = .int .i64 (k : Int) ∧ Hid (∀ j (h : j < l.length) (h' : j < m.length), j < k → l[j] ≤ m[j]) ∧ ∃ n, wr = W1.drewN n) (fun i _ => l.length - (intOf i).toNat)
    case atStart => exact ⟨0, Nat.zero_le _, rfl, fun j _ _ h => absurd h (Nat.not_lt_zero _), 0, rfl⟩
    case round =>
      obtain ⟨k, hk, rfl, hok, n, rfl⟩ := hrel
      by_cases hlt : k < l.length
      · have hlm : k < m.length := by have := HL.out; omega
        have hlt' : (k : Int) < l.length := by omega
        have ex := HC.out k hlt
        have ey := HC'.out k hlm
        rcases HA.out with h0 | rfl
        · exact absurd hlt (by rw [h0]; simp)
        rcases HA'.out with h0 | rfl
        · exact absurd hlm (by rw [h0]; simp)
        clear HA HA'
        by_cases he : l[k] > m[k]
        · have hE := hid (belowB_bad hlt hlm he)
          generalize l[k] = x at ex he
          generalize m[k] = y at ey he
          have he' : y < x := he
          clear he
          go_wp2
          go_quiet (fail)
          go_wp2
          go_ret
          exact ⟨ret_bool hE.out.symm, by first | exact HB.out | exact bdrewN HB.out | exact bdrewN (bdrewN HB.out)⟩
        · have hst : Hid (∀ j (h : j < l.length) (h' : j < m.length), j < k + 1 → l[j] ≤ m[j]) := fun j hj hj' h => by
            rcases Nat.lt_or_ge j k with h1 | h1
            · exact hok.out j hj hj' h1
            · obtain rfl : j = k := by omega
              omega
          generalize l[k] = x at ex he
          generalize m[k] = y at ey he
          have he' : ¬ y < x := he
          clear he
          go_wp2
          go_quiet (fail)
          go_wp2
          go_roundw
          case rel => exact ⟨k + 1, by omega, by go_num, hst, by first | exact ⟨_, rfl⟩ | exact ⟨_, World.drewN_drewN _ _ _⟩⟩
          case measure => simp [intOf]; omega
      · obtain rfl : k = l.length := by omega
        have hE := hid ((belowB_iff HL.out).2 fun j h h' => hok.out j h h' h)
        go_wp2
        go_ret
        exact ⟨ret_bool hE.out.symm, by first | exact HB.out | exact bdrewN HB.out | exact bdrewN (bdrewN HB.out)⟩
  · have h2 : ((l.length : Int) != (m.length : Int)) = true := by simp; omega
    have hE := hid (belowB_len hlen)
    clear hlen
    go_enter Try.func29, Try.ntmps29
    go_wp2
    go_ret
    exact ⟨ret_bool hE.out.symm, by first | exact HB.out | exact bdrewN HB.out | exact bdrewN (bdrewN HB.out)⟩

set_option maxHeartbeats 2000000 in
theorem rsame_any (w : World) (v u : Value) (l m : List Int) (br br2 : Bool) (hl : RowI w v l) (hm : RowI w u m) :
    Calls Try.prog 14 #[.agg #[v, .bool br], .agg #[u, .bool br2]] w fun e w' => e = .returned (.bool (br == br2 && decide (l = m))) ∧ Below w.heap.size w w' := by
  obtain ⟨⟨b0, b1⟩, ⟨x0, x1⟩, hB⟩ := four_start (w := w) (c0 := v) (c1 := .bool br) (d0 := u) (d1 := .bool br2) (T := 26) (T' := 26) (fz := (0, 0)) (fz' := (0, 0))
  have HL := hid (hl.keep hB)
  have HM := hid (hm.keep hB)
  have HB := hid hB
  clear hB hl hm
  cases br <;> cases br2
  all_goals
    go_enter Try.func14, Try.ntmps14
    go_wp2_with (go_at_call 22; refine (sameI_any _ _ _ _ _ HL.out HM.out).mono ?_; rintro e w' ⟨rfl, n, rfl⟩)
    go_ret
    exact ⟨rfl, by first | exact HB.out | exact bdrewN HB.out⟩
end Go.Proofs.Ytpkcnojcklmhmaa
