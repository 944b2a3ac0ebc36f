/- Walks of Cooked of both: contracts. -/
import Derived.Test.YtpkdainpmgohiaaYi
namespace Go.Proofs.Ytpkdainpmgohiaa
open Go.RowKit

/-- A reading of a cook that was hot enough, and how many they are. -/
def cookB (p : Nat → St) (t : Int) (x : Rd) : Bool := decide ((p x.s.toNat).k = 3) && decide (t ≤ x.t)
def cookN (p : Nat → St) (r : Nat → Rd) (t : Int) : Nat → Nat
  | 0 => 0
  | k + 1 => if cookB p t (r k) then cookN p r t k + 1 else cookN p r t k
theorem cookN_yes {p : Nat → St} {r : Nat → Rd} {t : Int} {k : Nat} (h : cookB p t (r k) = true) : cookN p r t (k + 1) = cookN p r t k + 1 := by rw [cookN, h]; rfl
theorem cookN_no {p : Nat → St} {r : Nat → Rd} {t : Int} {k : Nat} (h : cookB p t (r k) = false) : cookN p r t (k + 1) = cookN p r t k := by rw [cookN, h]; rfl
theorem cookN_le (p : Nat → St) (r : Nat → Rd) (t : Int) : ∀ k, cookN p r t k ≤ k
  | 0 => Nat.le_refl _
  | k + 1 => by
    have := cookN_le p r t k
    cases h : cookB p t (r k)
    · rw [cookN_no h]; omega
    · rw [cookN_yes h]; omega
/-- What Cooked answers. -/
def CookP (m : Nat) (p : Nat → St) (n : Nat) (r : Nat → Rd) (t : Int) (w : World) (e : Ending) (w' : World) : Prop :=
  ∃ a c : Int, e = .returned (.tuple #[.int .i64 a, .int .i64 c]) ∧ (recB m p n r = true ∧ c = 0 ∧ a = cookN p r t n ∨ recB m p n r = false ∧ c = 1 ∧ a = 0) ∧ Below w.heap.size w w'
set_option maxRecDepth 20000 in
set_option maxHeartbeats 4000000 in
theorem cook_any (u : Value) (m : Nat) (p : Nat → St) (v : Value) (n : Nat) (r : Nat → Rd) (t : Int) (w : World) (hp : RowP w u m p) (hr : RowR w v n r) :
    Calls Try.prog 59 #[u, v, .int .i64 t] w (CookP m p n r t w) := by
  have HK := hid (fun w1 (g : Below w.heap.size w w1) => hr.keep g)
  have HQ := hid (fun w1 (g : Below w.heap.size w w1) => (show RowP w1 u m p from RowT.keep hp g))
  have HP := hid hp
  have HR := hid hr
  have hnm := hr.most
  have hmm := RowT.most hp
  unfold maxLen at hnm hmm
  obtain ⟨pa, pc, rfl⟩ := RowT.shape hp
  obtain ⟨va, vc, rfl⟩ := hr.shape
  clear hp hr
  cases hrec : recB m p n r
  · have HREC := hid hrec
    go_enter Try.func59, Try.ntmps59
    go_wp2_with (go_at_call 48; refine (vrec_any _ _ _ _ _ _ _ HP.out HR.out).mono ?_; rintro e w1 ⟨rfl, hb⟩; rw [hrec]; have HB := hid hb; clear hb)
    refine bodyPost_ret (v := .tuple #[.int .i64 0, .int .i64 1]) (by simp [results, Try.results59, go_sem]) rfl ?_
    exact ⟨0, 1, rfl, .inr ⟨HREC.out, rfl, rfl⟩, HB.out⟩
  obtain ⟨hn, hm1, hm16, hst⟩ := rec_step hrec
  have HREC := hid hrec
  have HST := hid hst
  clear hst
  go_enter Try.func59, Try.ntmps59
  go_wp2_with (go_at_call 48; refine (vrec_any _ _ _ _ _ _ _ HP.out HR.out).mono ?_; rintro e w1 ⟨rfl, hb⟩; rw [hrec]; have HB := hid hb; clear hb)
  clear hrec
  go_loopw [8, 17] (fun v i wr => ∃ k : Nat, k ≤ n ∧ i = .int .i64 (k : Int) ∧ v = .int .i64 (cookN p r t k : Int) ∧ Hid (Below w.heap.size w wr)) (fun _ i _ => n - (intOf i).toNat)
  case atStart => exact ⟨0, Nat.zero_le _, rfl, rfl, HB⟩
  case round =>
    obtain ⟨k, hk, rfl, rfl, hB⟩ := hrel
    by_cases hlt : k < n
    · have hlt' : (k : Int) < n := by omega
      obtain ⟨a', b', o', cap', hv, _, _, ha', hcell⟩ := HK.out _ hB.out
      injection hv with hv1 hv2 hv3
      subst hv1 hv3
      rcases ha' with h0 | rfl
      · omega
      obtain ⟨c0, c1, c2, c3⟩ := hcell k hlt
      obtain ⟨hs0, hs1⟩ := HST.out k hlt
      have HLE := hid (cookN_le p r t k)
      have hle := HLE.out
      have HYES := hid (cookN_yes (p := p) (r := r) (t := t) (k := k))
      have HNO := hid (cookN_no (p := p) (r := r) (t := t) (k := k))
      obtain ⟨x, hX⟩ : ∃ x, x = r k := ⟨_, rfl⟩
      rw [← hX] at c0 c1 c2 c3 hs0 hs1 HYES HNO
      clear hcell hX hv2
      obtain ⟨xs, xt, xc, xb⟩ := x
      simp only at c0 c1 c2 c3 hs0 hs1
      obtain ⟨q, rfl⟩ : ∃ q : Nat, xs = q := ⟨xs.toNat, by omega⟩
      have hq : q < m := by omega
      have HB1 := hid (hB.out.alloc hB.out.size (.cells #[.int .i64 q, .int .i64 xt, .int .i64 xc, .int .i64 xb] 74))
      obtain ⟨a2, b2, o2, cap2, hv, _, _, ha2, hcell2⟩ := HQ.out _ HB1.out
      injection hv with hv1 hv2 hv3
      subst hv1 hv3
      rcases ha2 with h0 | rfl
      · omega
      obtain ⟨d0, d1, d2⟩ := hcell2 q hq
      have HCB := hid (show cookB p t ⟨q, xt, xc, xb⟩ = (decide ((p q).k = 3) && decide (t ≤ xt)) from rfl)
      simp only at d0
      generalize (p q).k = yk at d0 HCB
      clear hcell2 hv2 d1 d2
      have HLT := hid hlt
      clear hlt
      by_cases hc1 : yk = 3
      case neg =>
        have g1 : (yk == 3) = false := by simpa using hc1
        have HN := hid (HNO.out (by rw [HCB.out, decide_eq_false hc1]; rfl))
        generalize hcn : cookN p r t k = cn at hle HN
        go_wp2
        go_roundw
        case rel => exact ⟨k + 1, by have := HLT.out; omega, by go_num, by rw [HN.out], HB1⟩
        case measure => have := HLT.out; simp [intOf]; omega
      subst hc1
      by_cases hc2 : t ≤ xt
      case neg =>
        have g1 : decide (t ≤ xt) = false := by simpa using hc2
        have HN := hid (HNO.out (by rw [HCB.out, g1, Bool.and_false]))
        generalize hcn : cookN p r t k = cn at hle HN
        go_wp2
        go_roundw
        case rel => exact ⟨k + 1, by have := HLT.out; omega, by go_num, by rw [HN.out], HB1⟩
        case measure => have := HLT.out; simp [intOf]; omega
      have g1 : decide (t ≤ xt) = true := by simpa using hc2
      have HN := hid (HYES.out (by rw [HCB.out, g1]; rfl))
      generalize hcn : cookN p r t k = cn at hle HN
      go_wp2
      go_roundw
      case rel => exact ⟨k + 1, by have := HLT.out; omega, by go_num, by rw [HN.out]; go_num, HB1⟩
      case measure => have := HLT.out; simp [intOf]; omega
    · obtain rfl : k = n := by omega
      have hle := cookN_le p r t k
      generalize hcn : cookN p r t k = cn at hle
      go_wp2
      refine bodyPost_ret (v := .tuple #[.int .i64 (cn : Int), .int .i64 0]) (by simp [results, Try.results59, go_sem]) rfl ?_
      exact ⟨_, _, rfl, .inl ⟨HREC.out, rfl, by rw [← hcn]⟩, hB.out⟩
set_option maxRecDepth 20000 in
set_option maxHeartbeats 4000000 in
theorem xcook_any (u : Value) (m : Nat) (p : Nat → St) (v : Value) (n : Nat) (r : Nat → Rd) (t : Int) (w : World) (hp : RowP w u m p) (hr : RowR w v n r) :
    Calls Try.prog 60 #[u, v, .int .i64 t] w (CookP m p n r t w) := by
  have HK := hid (fun w1 (g : Below w.heap.size w w1) => hr.keep g)
  have HQ := hid (fun w1 (g : Below w.heap.size w w1) => (show RowP w1 u m p from RowT.keep hp g))
  have HP := hid hp
  have HR := hid hr
  have hnm := hr.most
  have hmm := RowT.most hp
  unfold maxLen at hnm hmm
  obtain ⟨pa, pc, rfl⟩ := RowT.shape hp
  obtain ⟨va, vc, rfl⟩ := hr.shape
  clear hp hr
  cases hrec : recB m p n r
  · have HREC := hid hrec
    go_enter Try.func60, Try.ntmps60
    go_wp2_with (go_at_call 52; refine (xrec_any _ _ _ _ _ _ _ HP.out HR.out).mono ?_; rintro e w1 ⟨rfl, hb⟩; rw [hrec]; have HB := hid hb; clear hb)
    refine bodyPost_ret (v := .tuple #[.int .i64 0, .int .i64 1]) (by simp [results, Try.results60, go_sem]) rfl ?_
    exact ⟨0, 1, rfl, .inr ⟨HREC.out, rfl, rfl⟩, HB.out⟩
  obtain ⟨hn, hm1, hm16, hst⟩ := rec_step hrec
  have HREC := hid hrec
  have HST := hid hst
  clear hst
  go_enter Try.func60, Try.ntmps60
  go_wp2_with (go_at_call 52; refine (xrec_any _ _ _ _ _ _ _ HP.out HR.out).mono ?_; rintro e w1 ⟨rfl, hb⟩; rw [hrec]; have HB := hid hb; clear hb)
  clear hrec
  go_loopw [8, 9] (fun v i wr => ∃ k : Nat, k ≤ n ∧ i = .int .i64 (k : Int) ∧ v = .int .i64 (cookN p r t k : Int) ∧ Hid (Below w.heap.size w wr)) (fun _ i _ => n - (intOf i).toNat)
  case atStart => exact ⟨0, Nat.zero_le _, rfl, rfl, HB⟩
  case round =>
    obtain ⟨k, hk, rfl, rfl, hB⟩ := hrel
    by_cases hlt : k < n
    · have hlt' : (k : Int) < n := by omega
      obtain ⟨a', b', o', cap', hv, _, _, ha', hcell⟩ := HK.out _ hB.out
      injection hv with hv1 hv2 hv3
      subst hv1 hv3
      rcases ha' with h0 | rfl
      · omega
      obtain ⟨c0, c1, c2, c3⟩ := hcell k hlt
      obtain ⟨hs0, hs1⟩ := HST.out k hlt
      have HLE := hid (cookN_le p r t k)
      have hle := HLE.out
      have HYES := hid (cookN_yes (p := p) (r := r) (t := t) (k := k))
      have HNO := hid (cookN_no (p := p) (r := r) (t := t) (k := k))
      obtain ⟨x, hX⟩ : ∃ x, x = r k := ⟨_, rfl⟩
      rw [← hX] at c0 c1 c2 c3 hs0 hs1 HYES HNO
      clear hcell hX hv2
      obtain ⟨xs, xt, xc, xb⟩ := x
      simp only at c0 c1 c2 c3 hs0 hs1
      obtain ⟨q, rfl⟩ : ∃ q : Nat, xs = q := ⟨xs.toNat, by omega⟩
      have hq : q < m := by omega
      have HB1 := hid hB.out
      obtain ⟨a2, b2, o2, cap2, hv, _, _, ha2, hcell2⟩ := HQ.out _ HB1.out
      injection hv with hv1 hv2 hv3
      subst hv1 hv3
      rcases ha2 with h0 | rfl
      · omega
      obtain ⟨d0, d1, d2⟩ := hcell2 q hq
      have HCB := hid (show cookB p t ⟨q, xt, xc, xb⟩ = (decide ((p q).k = 3) && decide (t ≤ xt)) from rfl)
      simp only at d0
      generalize (p q).k = yk at d0 HCB
      clear hcell2 hv2 d1 d2
      have HLT := hid hlt
      clear hlt
      by_cases hc1 : yk = 3
      case neg =>
        have g1 : (yk == 3) = false := by simpa using hc1
        have HN := hid (HNO.out (by rw [HCB.out, decide_eq_false hc1]; rfl))
        generalize hcn : cookN p r t k = cn at hle HN
        go_wp2
        go_roundw
        case rel => exact ⟨k + 1, by have := HLT.out; omega, by go_num, by rw [HN.out], HB1⟩
        case measure => have := HLT.out; simp [intOf]; omega
      subst hc1
      by_cases hc2 : t ≤ xt
      case neg =>
        have g1 : decide (t ≤ xt) = false := by simpa using hc2
        have HN := hid (HNO.out (by rw [HCB.out, g1, Bool.and_false]))
        generalize hcn : cookN p r t k = cn at hle HN
        go_wp2
        go_roundw
        case rel => exact ⟨k + 1, by have := HLT.out; omega, by go_num, by rw [HN.out], HB1⟩
        case measure => have := HLT.out; simp [intOf]; omega
      have g1 : decide (t ≤ xt) = true := by simpa using hc2
      have HN := hid (HYES.out (by rw [HCB.out, g1]; rfl))
      generalize hcn : cookN p r t k = cn at hle HN
      go_wp2
      go_roundw
      case rel => exact ⟨k + 1, by have := HLT.out; omega, by go_num, by rw [HN.out]; go_num, HB1⟩
      case measure => have := HLT.out; simp [intOf]; omega
    · obtain rfl : k = n := by omega
      have hle := cookN_le p r t k
      generalize hcn : cookN p r t k = cn at hle
      go_wp2
      refine bodyPost_ret (v := .tuple #[.int .i64 (cn : Int), .int .i64 0]) (by simp [results, Try.results60, go_sem]) rfl ?_
      exact ⟨_, _, rfl, .inl ⟨HREC.out, rfl, by rw [← hcn]⟩, hB.out⟩
end Go.Proofs.Ytpkdainpmgohiaa
