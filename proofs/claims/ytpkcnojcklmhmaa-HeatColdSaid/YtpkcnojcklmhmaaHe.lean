/- Walks of foremost, coldest, hottest: contracts. -/
import Derived.Test.YtpkcnojcklmhmaaHd
namespace Go.Proofs.Ytpkcnojcklmhmaa
open Go.RowKit

theorem bestT_bd (lt : Int → Int → Bool) (T : List Int) (k : Nat) (hk : k ≤ T.length) (h0 : 0 < T.length) (hT : ∀ x ∈ T, -50000 ≤ x ∧ x ≤ 200000) : (bestT lt T k).1 < T.length ∧ -50000 ≤ (bestT lt T k).2 ∧ (bestT lt T k).2 ≤ 200000 := by
  obtain ⟨h1, h2⟩ := bestT_at lt T k hk h0
  rw [getD_at h1] at h2
  have := hT _ (List.getElem_mem h1)
  rw [h2] at this
  exact ⟨h1, this⟩
theorem bestT_yes {lt : Int → Int → Bool} {T : List Int} {k : Nat} {v : Int} (hv : T.getD k 0 = v) (h : lt v (bestT lt T k).2 = true) : bestT lt T (k + 1) = (k, v) := by
  rw [← hv] at h ⊢
  show (if _ then _ else _) = _
  rw [h]; rfl
theorem bestT_no {lt : Int → Int → Bool} {T : List Int} {k : Nat} {v : Int} (hv : T.getD k 0 = v) (h : lt v (bestT lt T k).2 = false) : bestT lt T (k + 1) = bestT lt T k := by
  rw [← hv] at h
  show (if _ then _ else _) = _
  rw [h]; rfl

set_option maxHeartbeats 400000 in
theorem cold_lt (t u : Int) (w : World) : Calls Try.prog 88 #[.int .i64 t, .int .i64 u] w fun e w' => e = .returned (.bool (ltB t u)) ∧ w = w' := by
  have h := hid (show ltB t u = _ from rfl)
  go_enter Try.func88, Try.ntmps88
  go_wp2
  go_ret
  exact ⟨rfl, rfl⟩
set_option maxHeartbeats 4000000 in
theorem cold_best (b : Nat) (c : Cn) (x : Bd) (w : World) (hG : GridC w b c x) (hc : c.Ok) (hx : Warm c x) :
    Calls Try.prog 87 #[.pointer (some ⟨b, 0, none⟩), .func (.func 88) #[] #[]] w (TwoD ((bestT ltB x.1 x.1.length).1 : Nat) (bestT ltB x.1 x.1.length).2 w) := by
  obtain ⟨p1, p2⟩ := hc.p
  have hlen : x.1.length = c.P := hx.len
  have h0 : 0 < x.1.length := by omega
  have e0 := hG.temp 0 h0
  have HB := hid (fun k hk => bestT_bd ltB x.1 k hk h0 hx.bd)
  have HG := hid hG; have HOK := hid hc; have HLEN := hid hlen
  have HTD := hid (fun j (h : j < x.1.length) => getD_at h)
  have HT := hid (fun j (h : j < x.1.length) => hx.bd _ (List.getElem_mem h))
  have s0 : x.1.getD 0 0 = x.1[0] := getD_at h0
  have HS0 := hid s0
  clear hG hx hlen s0
  obtain ⟨v0, hv0⟩ : ∃ v, v = x.1[0] := ⟨_, rfl⟩
  rw [← hv0] at e0
  have HV0 := hid hv0
  clear hv0
  rw [show (7 + 0 : Nat) = 7 from rfl] at e0
  have P0 : 0 < c.P := by omega
  have P1 : ((c.P : Nat) : Int) ≤ 48 := by omega
  go_enter Try.func87, Try.ntmps87
  go_wp2
  go_quiet ((go_at_call 86; exact Calls.quiet_of (gplaces_any b c x _ (HG.out.drewN _) HOK.out)))
  go_wp2
  go_loop [4, 5, 20] (fun p t i => ∃ k : Nat, k ≤ c.P ∧ i = .int .i64 (k : Int) ∧ ∃ (j : Nat) (v : Int), p = .int .i64 (j : Int) ∧ t = .int .i64 v ∧ Hid (bestT ltB x.1 k = (j, v))) (fun _ _ i => c.P - (intOf i).toNat)
  case atStart => exact ⟨0, Nat.zero_le _, rfl, 0, v0, rfl, rfl, by show (0, x.1.getD 0 0) = _; rw [HS0.out, ← HV0.out]⟩
  case round =>
    obtain ⟨k, hk, rfl, j, v, rfl, rfl, hB⟩ := hrel
    clear e0
    by_cases hlt : k < c.P
    · have hlt2 : k < x.1.length := by rw [HLEN.out]; exact hlt
      have ex := (HG.out.drewN nq).temp k hlt2
      have HTK := hid (HTD.out k hlt2)
      obtain ⟨u, hu⟩ : ∃ u, u = x.1[k] := ⟨_, rfl⟩
      rw [← hu] at ex
      have HU := hid hu
      clear hu
      have hlt' : (k : Int) < c.P := by omega
      cases hq : ltB u v
      · have HN := hid (bestT_no (lt := ltB) (T := x.1) (k := k) (v := u) (HTK.out.trans HU.out.symm) (by rw [hB.out]; exact hq))
        go_wp2_with (go_at_call 88; refine (cold_lt _ _ _).mono ?_; rintro e w' ⟨rfl, rfl⟩)
        go_round
        case rel => exact ⟨k + 1, by omega, by go_num, j, v, rfl, rfl, HN.out.trans hB.out⟩
        case measure => simp [intOf]; omega
      · have HN := hid (bestT_yes (lt := ltB) (T := x.1) (k := k) (v := u) (HTK.out.trans HU.out.symm) (by rw [hB.out]; exact hq))
        go_wp2_with (go_at_call 88; refine (cold_lt _ _ _).mono ?_; rintro e w' ⟨rfl, rfl⟩)
        go_round
        case rel => exact ⟨k + 1, by omega, by go_num, k, u, rfl, rfl, HN.out⟩
        case measure => simp [intOf]; omega
    · obtain rfl : k = c.P := by omega
      have HE := hid hB.out
      go_wp2
      go_ret2
      exact ⟨by rw [HLEN.out, HE.out]; rfl, nq, rfl⟩
set_option maxHeartbeats 1000000 in
theorem coldest_any (b : Nat) (c : Cn) (x : Bd) (w : World) (hG : GridC w b c x) (hc : c.Ok) (hx : Warm c x) :
    Calls Try.prog 54 #[.pointer (some ⟨b, 0, none⟩)] w (TwoD ((bestT ltB x.1 x.1.length).1 : Nat) (bestT ltB x.1 x.1.length).2 w) := by
  go_enter Try.func54, Try.ntmps54
  go_wp2_with (go_at_call 87; refine (cold_best b c x _ hG hc hx).mono ?_; rintro e w1 ⟨rfl, hd⟩; have HD := hid hd; clear hd)
  go_ret2
  exact ⟨rfl, HD.out⟩
end Go.Proofs.Ytpkcnojcklmhmaa
