/- Walk of RetortCold. -/
import Derived.Test.YtpkdainpmgohiaaYg
import Derived.Test.YtpkdainpmgohiaaVo
namespace Go.Proofs.Ytpkdainpmgohiaa
open Go.RowKit

theorem getT {l : List Tri} {a : Nat} (h : a < l.length) : l.getD a ⟨0, 0, 0⟩ = l[a] := by simp [List.getD, h]
theorem cold_inQ {p : Nat → St} {r : Nat → Rd} {n k j : Nat} {l : List Tri} (h : DevOk p r n l) (hj : j < l.length) (hk : k < n) (hb : ∀ a, a < j → (l.getD a ⟨0, 0, 0⟩).y ≤ (k : Int)) (hy : (k : Int) < (l.getD j ⟨0, 0, 0⟩).y) :
    decide ((l.getD j ⟨0, 0, 0⟩).x ≤ (k : Int)) = coldB p (r k) ∧ ((l.getD j ⟨0, 0, 0⟩).x ≤ (k : Int) → (l.getD j ⟨0, 0, 0⟩).z ≤ (r k).t) := by
  rw [getT hj] at hy ⊢
  exact cold_in h hj hk (fun a ha haj => by have := hb a haj; rwa [getT ha] at this) hy
theorem cold_outQ {p : Nat → St} {r : Nat → Rd} {n k : Nat} {l : List Tri} (h : DevOk p r n l) (hk : k < n) (hb : ∀ a, a < l.length → (l.getD a ⟨0, 0, 0⟩).y ≤ (k : Int)) : coldB p (r k) = false :=
  cold_out h hk fun a ha => by have := hb a ha; rwa [getT ha] at this
/-- What the law asks of one reading. -/
structure AskC (p : Nat → St) (r : Nat → Rd) (k : Nat) (yk ys xt : Int) : Prop where
  eq : coldB p (r k) = (decide (yk = 3) && decide (xt < ys))
theorem AskC.no {p : Nat → St} {r : Nat → Rd} {k : Nat} {yk ys xt : Int} (h : AskC p r k yk ys xt) (hc : coldB p (r k) = false) : (yk == 3) = false ∨ (yk = 3 ∧ ¬ xt < ys) := by
  have := h.eq
  rw [hc] at this
  by_cases h1 : yk = 3
  · refine .inr ⟨h1, fun h2 => ?_⟩
    rw [decide_eq_true h1, decide_eq_true h2] at this
    cases this
  · exact .inl (by simpa using h1)
theorem AskC.yes {p : Nat → St} {r : Nat → Rd} {k : Nat} {yk ys xt : Int} (h : AskC p r k yk ys xt) (hc : coldB p (r k) = true) : yk = 3 ∧ xt < ys := by
  have := h.eq
  rw [hc] at this
  simpa using this.symm
set_option maxRecDepth 20000 in
set_option maxHeartbeats 4000000 in
theorem cold_walk (u : Value) (m : Nat) (p : Nat → St) (v : Value) (n : Nat) (r : Nat → Rd) (w : World) (hp : RowP w u m p) (hr : RowR w v n r) :
    Calls Try.prog 12 #[u, v] w fun x w' => x = .returned (.bool true) ∧ Below w.heap.size w w' := by
  have HK := hid (fun w1 (g : Below w.heap.size w w1) => hr.keep g)
  have HQ := hid (fun w1 (g : Below w.heap.size w w1) => (show RowP w1 u m p from RowT.keep hp g))
  have HP := hid hp
  have HR := hid hr
  have hn := hr.most
  have hm := RowT.most hp
  unfold maxLen at hn hm
  obtain ⟨pa, pc, rfl⟩ := RowT.shape hp
  obtain ⟨va, vc, rfl⟩ := hr.shape
  clear hr hp
  by_cases h1 : m ≤ 40
  case neg =>
    have d1 : decide (40 < (m : Int)) = true := by simp; omega
    go_enter Try.func12, Try.ntmps12
    go_wp2_with (go_at_call 41; refine (vawake_any _).mono ?_; rintro e w9 ⟨rfl, hb⟩)
    go_ret
    exact ⟨rfl, hb⟩
  have d1 : decide (40 < (m : Int)) = false := by simp; omega
  by_cases h2 : n ≤ 300
  case neg =>
    have d2 : decide (300 < (n : Int)) = true := by simp; omega
    go_enter Try.func12, Try.ntmps12
    go_wp2_with (go_at_call 41; refine (vawake_any _).mono ?_; rintro e w9 ⟨rfl, hb⟩)
    go_ret
    exact ⟨rfl, hb⟩
  have d2 : decide (300 < (n : Int)) = false := by simp; omega
  have H2 := hid h2
  clear h1 h2
  go_enter Try.func12, Try.ntmps12
  go_wp2_with fail
  refine (dev_any _ _ _ _ _ _ _ HP.out HR.out).mono ?_
  rintro e w2 ⟨lv, l, c, rfl, hcase, hd, hb⟩
  have HB2 := hid hb
  have HD0 := hid hd
  clear hb hd
  rcases hcase with ⟨hrec, rfl, hl⟩ | ⟨hrec, rfl, rfl⟩
  case inr =>
    go_wp2_with (go_at_call 41; refine (vawake_any _).mono ?_; rintro e w9 ⟨rfl, hb⟩; have HB3 := hid (bstep HB2.out HB2.out.size hb); clear hb)
    go_ret
    exact ⟨rfl, HB3.out⟩
  obtain ⟨hn20, hm1, hm16, hst⟩ := rec_step hrec
  have HST := hid hst
  have hok := dev_ok p r n
  rw [← hl] at hok
  have HOK := hid hok
  have HD := hid (fun w1 (g : Below w2.heap.size w2 w1) => (show RowD w1 lv l from RowT.keep HD0.out g))
  obtain ⟨la, lc, hlv⟩ := RowT.shape HD0.out
  subst hlv
  clear hst hok hl hrec
  have hfew := HOK.out.few
  obtain ⟨L, hL⟩ : ∃ L, L = l.length := ⟨_, rfl⟩
  have HL := hid hL
  rw [← hL] at hfew ⊢
  clear hL
  go_wp2
  go_loopw [7, 8] (fun a t wr => ∃ j k : Nat, j ≤ L ∧ k ≤ n ∧ a = .int .i64 (j : Int) ∧ t = .int .i64 (k : Int) ∧ Hid (∀ a, a < j → (l.getD a ⟨0, 0, 0⟩).y ≤ (k : Int)) ∧ Hid (Below w2.heap.size w2 wr)) (fun _ t _ => n - (intOf t).toNat)
  case atStart => exact ⟨0, 0, Nat.zero_le _, Nat.zero_le _, rfl, rfl, fun a h => absurd h (Nat.not_lt_zero a), Below.refl _ _⟩
  case round =>
    obtain ⟨j, k, hj, hk, rfl, rfl, hbef, hB⟩ := hrel
    by_cases hlt : k < n
    case neg =>
      obtain rfl : k = n := by omega
      have HBW := hid (bstep HB2.out HB2.out.size hB.out)
      go_wp2_with (go_at_call 41; refine (vawake_any _).mono ?_; rintro e w9 ⟨rfl, hb⟩; have HB3 := hid (bstep HBW.out HBW.out.size hb); clear hb)
      go_ret
      exact ⟨rfl, HB3.out⟩
    have hlt' : (k : Int) < n := by omega
    obtain ⟨a', b', o', cap', hv, _, _, ha', hcell⟩ := HK.out _ (bstep HB2.out HB2.out.size hB.out)
    injection hv with hv1 hv2 hv3
    subst hv1 hv3
    rcases ha' with h0 | rfl
    · omega
    obtain ⟨c0, c1, c2, c3⟩ := hcell k hlt
    obtain ⟨hs0, hs1⟩ := HST.out k hlt
    obtain ⟨x, hX⟩ : ∃ x, x = r k := ⟨_, rfl⟩
    rw [← hX] at c0 c1 c2 c3 hs0 hs1
    have HX := hid hX
    clear hcell hX hv2
    obtain ⟨xs, xt, xc, xb⟩ := x
    simp only at c0 c1 c2 c3 hs0 hs1
    obtain ⟨q, rfl⟩ : ∃ q : Nat, xs = q := ⟨xs.toNat, by omega⟩
    have hq : q < m := by omega
    obtain ⟨a2, b2, o2, cap2, hv, _, _, ha2, hcell2⟩ := HQ.out _ (bstep HB2.out HB2.out.size hB.out)
    injection hv with hv1 hv2 hv3
    subst hv1 hv3
    rcases ha2 with h0 | rfl
    · omega
    obtain ⟨d0, d1, d2'⟩ := hcell2 q hq
    have HCB := hid (show AskC p r k (p q).k (p q).s xt from ⟨by rw [← HX.out]; rfl⟩)
    have HXT := hid (show (r k).t = xt by rw [← HX.out])
    simp only at d0 d1
    generalize (p q).k = yk at d0 HCB
    generalize (p q).s = ys at d1 HCB
    clear hcell2 hv2 d2' c2 c3
    have HLT := hid hlt
    clear hlt
    have HJ := hid hj
    clear hj
    go_wp2
    go_loop [7] (fun a => ∃ i : Nat, j ≤ i ∧ i ≤ L ∧ a = .int .i64 (i : Int) ∧ Hid (∀ a, a < i → (l.getD a ⟨0, 0, 0⟩).y ≤ (k : Int))) (fun a => L - (intOf a).toNat)
    case atStart => exact ⟨j, Nat.le_refl _, HJ.out, rfl, hbef⟩
    case round =>
      obtain ⟨i, hji, hi, rfl, hbi⟩ := hrel
      by_cases hiL : i < L
      · have hiL' : (i : Int) < L := by omega
        obtain ⟨a3, b3, o3, cap3, hv, _, _, ha3, hcell3⟩ := HD.out _ hB.out
        rw [← HL.out] at hv ha3 hcell3
        injection hv with hv1 hv2 hv3
        subst hv1 hv3
        rcases ha3 with h0 | rfl
        · omega
        obtain ⟨f0, f1, f2⟩ := hcell3 i hiL
        simp only at f0 f1 f2
        clear hcell3 hv2
        obtain ⟨Q, hQ⟩ : ∃ Q, Q = l.getD i ⟨0, 0, 0⟩ := ⟨_, rfl⟩
        have HQI := hid hQ
        rw [← hQ] at f0 f1 f2
        clear hQ
        by_cases hy : Q.y ≤ (k : Int)
        · have HBI : Hid (∀ a, a < i + 1 → (l.getD a ⟨0, 0, 0⟩).y ≤ (k : Int)) := by
            intro a ha
            rcases Nat.lt_succ_iff_lt_or_eq.1 ha with h | h
            · exact hbi.out a h
            · rw [h, ← HQI.out]; exact hy
          have HI := hid hiL
          clear hiL
          go_wp2
          go_roundw
          case rel => exact ⟨i + 1, by omega, HI.out, by go_num, HBI⟩
          case measure => have := HI.out; simp [intOf]; omega
        · have hy' : (k : Int) < Q.y := by omega
          have HIN := hid (cold_inQ HOK.out (by rw [← HL.out]; exact hiL) HLT.out hbi.out (by rw [← HQI.out]; exact hy'))
          rw [← HQI.out, HXT.out] at HIN
          clear hy
          have HI := hid hiL
          clear hiL
          by_cases hx : Q.x ≤ (k : Int)
          · obtain ⟨hyk, hys⟩ := HCB.out.yes (by rw [← HIN.out.1]; exact decide_eq_true hx)
            have hz := HIN.out.2 hx
            subst hyk
            have hz' : decide (xt < Q.z) = false := by simp; omega
            have hys' : decide (xt < ys) = true := by simpa using hys
            go_wp2
            go_quiet (fail)
            go_wp2
            go_roundw
            case rel => exact ⟨i, k + 1, by have := HI.out; omega, by have := HLT.out; omega, rfl, by go_num, hid (fun a ha => by have := hbi.out a ha; omega), hid (bdrewN hB.out)⟩
            case measure => have := HLT.out; simp [intOf]; omega
          · have hcb := HIN.out.1
            rw [decide_eq_false hx] at hcb
            rcases HCB.out.no hcb.symm with hg | ⟨hg, hg2⟩
            · clear hcb
              go_wp2
              go_quiet (fail)
              go_wp2
              go_roundw
              case rel => exact ⟨i, k + 1, by have := HI.out; omega, by have := HLT.out; omega, rfl, by go_num, hid (fun a ha => by have := hbi.out a ha; omega), hid (bdrewN hB.out)⟩
              case measure => have := HLT.out; simp [intOf]; omega
            · clear hcb
              subst hg
              have hg3 : decide (xt < ys) = false := by simpa using hg2
              go_wp2
              go_quiet (fail)
              go_wp2
              go_roundw
              case rel => exact ⟨i, k + 1, by have := HI.out; omega, by have := HLT.out; omega, rfl, by go_num, hid (fun a ha => by have := hbi.out a ha; omega), hid (bdrewN hB.out)⟩
              case measure => have := HLT.out; simp [intOf]; omega
      · obtain rfl : i = L := by omega
        have hcb := cold_outQ HOK.out HLT.out (by rw [← HL.out]; exact hbi.out)
        rcases HCB.out.no hcb with hg | ⟨hg, hg2⟩
        · clear hcb hiL
          go_wp2
          go_quiet (fail)
          go_wp2
          go_roundw
          case rel => exact ⟨i, k + 1, Nat.le_refl _, by have := HLT.out; omega, rfl, by go_num, hid (fun a ha => by have := hbi.out a ha; omega), hid (bdrewN hB.out)⟩
          case measure => have := HLT.out; simp [intOf]; omega
        · clear hcb hiL
          subst hg
          have hg3 : decide (xt < ys) = false := by simpa using hg2
          go_wp2
          go_quiet (fail)
          go_wp2
          go_roundw
          case rel => exact ⟨i, k + 1, Nat.le_refl _, by have := HLT.out; omega, rfl, by go_num, hid (fun a ha => by have := hbi.out a ha; omega), hid (bdrewN hB.out)⟩
          case measure => have := HLT.out; simp [intOf]; omega
end Go.Proofs.Ytpkdainpmgohiaa
