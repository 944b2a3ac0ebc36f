/- Walk of ValidSheets of the reference: contract. -/
import Derived.Test.YtjfakhfkbnnbcaaP2
namespace Go.Proofs.Ytjfakhfkbnnbcaa
open Go.RowKit

theorem one_first {l : List Sh} {x : Sh} (hx : l.getD 0 shD = x) : oneS l 0 = shB x := by unfold oneS; rw [hx]; simp
theorem one_next {l : List Sh} {j : Nat} {x y : Sh} (hx : l.getD (j + 1) shD = x) (hy : l.getD j shD = y) : oneS l (j + 1) = (shB x && befB y x) := by unfold oneS; rw [hx, Nat.add_sub_cancel, hy]; simp
set_option maxRecDepth 20000 in
set_option maxHeartbeats 8000000 in
theorem kxsheets_any (v : Value) (l : List Sh) (w : World) (hr : RowH w v l) : Calls Try.prog 35 #[v] w fun e w' => e = .returned (.bool (shsB l)) ∧ Below w.heap.size w w' := by
  have HR := hid (fun w1 (g : Below w.heap.size w w1) => hr.keep g)
  have hm := hr.most
  unfold maxLen at hm
  obtain ⟨va, vc, rfl⟩ := hr.shape
  obtain ⟨n, hn⟩ : ∃ n, n = l.length := ⟨_, rfl⟩
  have HN := hid hn
  rw [← hn] at hm HR ⊢
  clear hr hn
  by_cases h5 : n ≤ 500
  case neg =>
    have HE := hid (shsB_many (l := l) (by rw [← HN.out]; omega))
    have h5' : (500 : Int) < n := by omega
    clear h5
    go_enter Try.func35, Try.ntmps35
    go_wp2
    go_ret
    exact ⟨ret_bool HE.out.symm, Below.refl _ _⟩
  have h5' : ¬ (500 : Int) < n := by omega
  go_enter Try.func35, Try.ntmps35
  go_wp2
  go_loopw [3] (fun t wr => ∃ k : Nat, k ≤ n ∧ t = .int .i64 (k : Int) ∧ Hid (∀ j, j < k → oneS l j = true) ∧ Hid (Below w.heap.size w wr)) (fun t _ => n - (intOf t).toNat)
  case atStart => exact ⟨0, Nat.zero_le _, rfl, fun j h => absurd h (Nat.not_lt_zero j), Below.refl _ _⟩
  case round =>
    obtain ⟨k, hk, rfl, hok, hB⟩ := hrel
    by_cases hlt : k < n
    · have hlt' : (k : Int) < n := by omega
      have hkl : k < l.length := by rw [← HN.out]; exact hlt
      obtain ⟨b, o, hva, hat⟩ := (HR.out _ hB.out).get (by omega)
      subst hva
      have HAT := hid (fun w1 (g : Below wr.heap.size wr w1) k (hk : k < l.length) => (hat k hk).keep g)
      obtain ⟨x, hx⟩ : ∃ x, x = l[k] := ⟨_, rfl⟩
      have hak := hat k hkl
      rw [← hx] at hak
      obtain ⟨c0, c1, c2, c3, c4, c5, c6, c7, c8, c9⟩ := hak
      have HGX := hid (show l.getD k shD = x by rw [hx]; simp [List.getD, hkl])
      have HATX := hid (fun w1 (g : Below wr.heap.size wr w1) => show ShAt w1 b (o + k * 10) x by rw [hx]; exact (hat k hkl).keep g)
      have HKL := hid hkl
      have HST := hid (fun h => all_step (p := oneS l) (k := k) hok.out h)
      have HBAD := hid (fun h => shsB_bad hkl h)
      have HLT := hid hlt
      clear hlt hx hat hkl
      cases hs : shB x
      · have HE := hid (HBAD.out (by unfold oneS; rw [HGX.out, hs]; rfl))
        have HS := hid hs
        clear hs
        go_wp2_with fail
        refine (kxsheet_any x _).mono ?_
        rintro e w2 ⟨rfl, hb⟩
        rw [HS.out]
        have HB2 := hid (bstep hB.out hB.out.size hb)
        clear hb
        go_wp2_with fail
        go_ret
        exact ⟨ret_bool HE.out.symm, HB2.out⟩
      · have HS := hid hs
        clear hs
        go_wp2_with fail
        refine (kxsheet_any x _).mono ?_
        rintro e w2 ⟨rfl, hb⟩
        rw [HS.out]
        have HB2 := hid (bstep hB.out hB.out.size hb)
        have HAT2 := hid (fun k hk => HAT.out _ hb k hk)
        have hak := HATX.out _ hb
        clear hb c0 c1 c2 c3 c4 c5 c6 c7 c8 c9
        obtain ⟨c0, c1, _⟩ := hak
        rcases k with _ | j
        · have HE := hid (HST.out (by rw [one_first HGX.out, HS.out]))
          rw [Nat.zero_mul, Nat.add_zero] at c0
          rw [Nat.zero_mul, Nat.add_zero] at c1
          go_wp2
          go_quiet (fail)
          have HB3 := hid (bdrewN (n := nq) HB2.out)
          go_wp2
          go_roundw
          case rel => exact ⟨1, HLT.out, rfl, HE, HB3⟩
          case measure => have := HLT.out; simp [intOf]; omega
        · have hjl : j < l.length := by have := HKL.out; omega
          have haj := HAT2.out j hjl
          obtain ⟨y, hy⟩ : ∃ y, y = l[j] := ⟨_, rfl⟩
          rw [← hy] at haj
          obtain ⟨d0, d1, _⟩ := haj
          have HGY := hid (show l.getD j shD = y by rw [hy]; simp [List.getD, hjl])
          have hj1 : IntKind.i64.wrap (j : Int) = (j : Int) := IntWalk.i64_in _ ⟨by omega, by omega⟩
          have hj2 : (j : Int) < (n : Int) := by omega
          have HON := hid (show oneS l (j + 1) = befB y x by rw [one_next HGX.out HGY.out, HS.out]; rfl)
          have HBF := hid (show befB y x = (decide (y.tk < x.tk) || (decide (y.tk = x.tk) && decide (y.hd < x.hd))) from rfl)
          obtain ⟨xt, hxt⟩ : ∃ z, z = x.tk := ⟨_, rfl⟩
          obtain ⟨xh, hxh⟩ : ∃ z, z = x.hd := ⟨_, rfl⟩
          obtain ⟨yt, hyt⟩ : ∃ z, z = y.tk := ⟨_, rfl⟩
          obtain ⟨yh, hyh⟩ : ∃ z, z = y.hd := ⟨_, rfl⟩
          rw [← hxt] at c0
          rw [← hxh] at c1
          rw [← hyt] at d0
          rw [← hyh] at d1
          rw [← hxt, ← hxh, ← hyt, ← hyh] at HBF
          clear hy hjl hxt hxh hyt hyh
          rcases (show xt < yt ∨ (xt = yt ∧ xh ≤ yh) ∨ (xt = yt ∧ ¬ xh ≤ yh) ∨ (¬ xt < yt ∧ ¬ xt = yt) by omega) with g | ⟨g1, g2⟩ | ⟨g1, g2⟩ | ⟨g1, g2⟩
          · have HE := hid (HBAD.out (by rw [HON.out, HBF.out, decide_eq_false (show ¬ yt < xt by omega), decide_eq_false (show ¬ yt = xt by omega)]; rfl))
            have e1 : decide (xt < yt) = true := decide_eq_true g
            clear g
            go_wp2
            go_quiet (fail)
            have HB3 := hid (bdrewN (n := nq) HB2.out)
            go_wp2
            go_ret
            exact ⟨ret_bool HE.out.symm, HB3.out⟩
          · have HE := hid (HBAD.out (by rw [HON.out, HBF.out, decide_eq_false (show ¬ yt < xt by omega), decide_eq_false (show ¬ yh < xh by omega)]; simp))
            subst g1
            have e1 : decide (xt < xt) = false := decide_eq_false (by omega)
            have e2 : decide (xh ≤ yh) = true := decide_eq_true g2
            clear g2
            go_wp2
            go_quiet (fail)
            have HB3 := hid (bdrewN (n := nq) HB2.out)
            go_wp2
            go_ret
            exact ⟨ret_bool HE.out.symm, HB3.out⟩
          · have HE := hid (HST.out (by rw [HON.out, HBF.out, decide_eq_true (show yt = xt by omega), decide_eq_true (show yh < xh by omega)]; simp))
            subst g1
            have e1 : decide (xt < xt) = false := decide_eq_false (by omega)
            have e2 : decide (xh ≤ yh) = false := decide_eq_false g2
            clear g2
            go_wp2
            go_quiet (fail)
            have HB3 := hid (bdrewN (n := nq) HB2.out)
            go_wp2
            go_roundw
            case rel => exact ⟨j + 1 + 1, HLT.out, by go_num, HE, HB3⟩
            case measure => have := HLT.out; simp [intOf]; omega
          · have HE := hid (HST.out (by rw [HON.out, HBF.out, decide_eq_true (show yt < xt by omega)]; rfl))
            have e1 : decide (xt < yt) = false := decide_eq_false g1
            have e2 : (xt == yt) = false := by simpa using g2
            clear g1 g2
            go_wp2
            go_quiet (fail)
            have HB3 := hid (bdrewN (n := nq) HB2.out)
            go_wp2
            go_roundw
            case rel => exact ⟨j + 1 + 1, HLT.out, by go_num, HE, HB3⟩
            case measure => have := HLT.out; simp [intOf]; omega
    · obtain rfl : k = n := by omega
      have HE := hid (shsB_end (l := l) (by rw [← HN.out]; exact h5) (fun j hj => hok.out j (by rw [HN.out]; exact hj)))
      go_wp2
      go_ret
      exact ⟨ret_bool HE.out.symm, hB.out⟩
end Go.Proofs.Ytjfakhfkbnnbcaa
