/- SeamSafe's walk. -/
import Derived.Test.YtjfakhfkbnnbcaaJk
import Derived.Test.YtjfakhfkbnnbcaaJh
namespace Go.Proofs.Ytjfakhfkbnnbcaa
open Go.RowKit

theorem hdC_ran {n : Nm} {l : List Sh} {hd b E : Int} (hY : hdC n l hd b E = 0) : 0 ≤ b ∧ b ≤ E ∧ E ≤ 100000000 := by
  unfold hdC at hY
  cases h : ranB b E
  · rw [h] at hY
    generalize nmB n = P1 at hY
    generalize shsB l = P2 at hY
    generalize inB hd 1 12 = P3 at hY
    cases P1 <;> cases P2 <;> cases P3 <;> simp at hY
  · exact ranB_iff.1 h
/-- A tick is held exactly if it is not safe. -/
theorem held_safe {n : Nm} {l : List Sh} {hd b E T : Int} {m : List Pr} (hT : T < E) (hbT : b ≤ T) (hX : sfC n l hd T = 0) (hY : hdC n l hd b E = 0) (hm : ∀ t, inP m t ↔ inP (allT hdF b E (cksL (goodB n) l) (upL hd.toNat)) t) : inPB m T = !(sfA n l hd T) := by
  have hs : shsB l = true := by
    unfold hdC at hY
    cases h : shsB l
    · rw [h] at hY; simp at hY
    · rfl
  have hr := hdC_ran hY
  have ha : sfA n l hd T = sfB (cksL (goodB n) l) (upL hd.toNat) T := by unfold sfA; rw [hX]; rfl
  rw [ha, Bool.eq_iff_iff, inPB_iff, hm T, held_iff hr.1]
  rw [safe_iff (shs_asc hs) (by omega) (by omega)]
  cases sfB (cksL (goodB n) l) (upL hd.toNat) T
  · simp; omega
  · simp
set_option maxRecDepth 20000 in
set_option maxHeartbeats 32000000 in
theorem safe_walk (n : Nm) (v : Value) (l : List Sh) (hd b E : Int) (w : World) (hr : RowH w v l) (_ : (Lit.int .i64 hd).wf = true) (_ : (Lit.int .i64 b).wf = true) (_ : (Lit.int .i64 E).wf = true) : Calls Try.prog 4 #[.agg #[.int .i64 n.bl, .int .i64 n.bh, .int .i64 n.cl, .int .i64 n.ch, .int .i64 n.pc, .int .i64 n.wr, .int .i64 n.tl, .int .i64 n.th, .int .i64 n.sl, .int .i64 n.sh], v, .agg #[.int .i64 hd, .int .i64 b, .int .i64 E]] w fun e w' => e = .returned (.bool true) ∧ Below w.heap.size w w' := by
  have HR := hid (fun w1 (g : Below w.heap.size w w1) => hr.keep g)
  have hm := hr.most
  unfold maxLen at hm
  clear hr
  have HX0 := hid (box2_start (w := w) (A := #[.int .i64 n.bl, .int .i64 n.bh, .int .i64 n.cl, .int .i64 n.ch, .int .i64 n.pc, .int .i64 n.wr, .int .i64 n.tl, .int .i64 n.th, .int .i64 n.sl, .int .i64 n.sh]) (B := #[.int .i64 hd, .int .i64 b, .int .i64 E]) (T := 23) (T' := 26) (fz := (0, 0)) (fz' := (0, 0)))
  obtain ⟨va, vc, rfl⟩ := (HR.out _ (Below.refl _ _)).shape
  obtain ⟨m, hn⟩ : ∃ m, m = l.length := ⟨_, rfl⟩
  have HN := hid hn
  rw [← hn] at hm HR ⊢
  clear hn
  by_cases h5 : m ≤ 200
  case neg =>
    have h5' : (200 : Int) < m := by omega
    clear h5
    go_enter Try.func4, Try.ntmps4
    go_wp2_with fail
    refine (kawake_any _).mono ?_
    rintro e w2 ⟨rfl, hb⟩
    have HB2 := hid (bstep HX0.out.low HX0.out.low.size hb)
    clear hb
    go_wp2_with fail
    go_ret
    exact ⟨rfl, HB2.out⟩
  have h5' : ¬ (200 : Int) < m := by omega
  have HL := hid (show l.length ≤ 200 by rw [← HN.out]; exact h5)
  have HC1 := hid (fun w1 (g : Below w.heap.size w w1) (T : Int) => safe_any n _ l hd T w1 (HR.out w1 g) (by have := HL.out; omega))
  have HC2 := hid (fun w1 (g : Below w.heap.size w w1) (T : Int) => xsafe_any n _ l hd T w1 (HR.out w1 g) HL.out)
  have HC3 := hid (fun w1 (g : Below w.heap.size w w1) => heldk_any n _ l hd b E w1 (HR.out w1 g) (by have := HL.out; omega))
  obtain ⟨Y, hY⟩ : ∃ Y, hdC n l hd b E = Y := ⟨_, rfl⟩
  rw [hY] at HC3
  have HY := hid hY
  clear h5 hY
  go_enter Try.func4, Try.ntmps4
  go_wp2
  go_loopw [7] (fun a wr => ∃ k : Nat, k ≤ 6 ∧ a = .int .i64 (k : Int) ∧ Hid (Box2 w wr #[.int .i64 n.bl, .int .i64 n.bh, .int .i64 n.cl, .int .i64 n.ch, .int .i64 n.pc, .int .i64 n.wr, .int .i64 n.tl, .int .i64 n.th, .int .i64 n.sl, .int .i64 n.sh] #[.int .i64 hd, .int .i64 b, .int .i64 E])) (fun a _ => 6 - (intOf a).toNat)
  case atStart => exact ⟨0, Nat.zero_le _, rfl, HX0⟩
  case round =>
    obtain ⟨k, hk, rfl, hX⟩ := hrel
    by_cases hlt : k < 6
    · have hlt' : (k : Int) < 6 := by omega
      have hkw : IntKind.i64.wrap ((k : Int) + 1) = (k : Int) + 1 := IntWalk.i64_in _ ⟨by omega, by omega⟩
      obtain ⟨K, hK⟩ : ∃ K : Int, (k : Int) * (k : Int) = K := ⟨_, rfl⟩
      have hK2 : 0 ≤ K ∧ K ≤ 25 := by
        subst hK
        rcases (show k = 0 ∨ k = 1 ∨ k = 2 ∨ k = 3 ∨ k = 4 ∨ k = 5 by omega) with rfl | rfl | rfl | rfl | rfl | rfl <;> exact ⟨by decide, by decide⟩
      have hKw : IntKind.i64.wrap ((k : Int) * (k : Int)) = K := by rw [hK]; exact IntWalk.i64_in _ ⟨by omega, by omega⟩
      obtain ⟨T, hT⟩ : ∃ T : Int, IntKind.i64.wrap (b + K) = T := ⟨_, rfl⟩
      have HTB := hid (show 0 ≤ b → b ≤ 100000000 → b ≤ T from fun g1 g2 => by rw [← hT, IntWalk.i64_in _ ⟨by omega, by omega⟩]; omega)
      have HLT := hid hlt
      obtain ⟨X, hXX⟩ : ∃ X, sfC n l hd T = X := ⟨_, rfl⟩
      obtain ⟨A, hA⟩ : ∃ A, sfA n l hd T = A := ⟨_, rfl⟩
      have HD1 := hid (fun w1 (g : Below w.heap.size w w1) => HC1.out w1 g T)
      have HD2 := hid (fun w1 (g : Below w.heap.size w w1) => HC2.out w1 g T)
      rw [hXX, hA] at HD1 HD2
      have HXX := hid hXX
      have HA := hid hA
      have HK2 := hid hK2
      clear hlt hXX hA hK2 hK
      obtain ⟨n0, n1, n2, n3, n4, n5, n6, n7, n8, n9, s0, s1, s2⟩ := hX.out.span
      go_wp2_with fail
      refine (HD1.out _ hX.out.low).mono ?_
      rintro e w3 ⟨rfl, hb⟩
      have HX3 := hid (hX.out.keep hb)
      clear n0 n1 n2 n3 n4 n5 n6 n7 n8 n9 s0 s1 s2
      obtain ⟨n0, n1, n2, n3, n4, n5, n6, n7, n8, n9, s0, s1, s2⟩ := HX3.out.span
      clear hb hkw hKw hT
      have hkw : IntKind.i64.wrap ((k : Int) + 1) = (k : Int) + 1 := IntWalk.i64_in _ ⟨by omega, by omega⟩
      go_wp2_with fail
      refine (HD2.out _ HX3.out.low).mono ?_
      rintro e w4 ⟨rfl, hb⟩
      have HX4 := hid (HX3.out.keep hb)
      clear n0 n1 n2 n3 n4 n5 n6 n7 n8 n9 s0 s1 s2
      obtain ⟨n0, n1, n2, n3, n4, n5, n6, n7, n8, n9, s0, s1, s2⟩ := HX4.out.span
      clear hb
      go_wp2_with fail
      refine (HC3.out _ HX4.out.low).mono ?_
      rintro e w5 ⟨u, m5, rfl, ho, hb, hm5, hn5⟩
      have HX5 := hid (HX4.out.keep hb)
      have HM5 := hid hm5
      have HIN := hid (fun W (g : Below w5.heap.size w5 W) => in_any u T m5 W (ho.row.keep g))
      obtain ⟨ua, uc, rfl⟩ := ownX_shape ho
      clear n0 n1 n2 n3 n4 n5 n6 n7 n8 n9 s0 s1 s2
      obtain ⟨n0, n1, n2, n3, n4, n5, n6, n7, n8, n9, s0, s1, s2⟩ := HX5.out.span
      clear hb ho hm5 hn5
      have hX5 : (X == X) = true := by simp
      by_cases x0 : X = 0
      case neg =>
        have x1 : (X == 0) = false := by simpa using x0
        have x2 : (X != 0) = true := by simpa using x0
        go_wp2
        go_roundw
        case rel => exact ⟨k + 1, HLT.out, by go_num, HX5⟩
        case measure => have := HLT.out; simp [intOf]; omega
      by_cases y0 : Y = 0
      case neg =>
        have y1 : (Y == 0) = false := by simpa using y0
        have y2 : (Y != 0) = true := by simpa using y0
        subst x0
        go_wp2
        go_roundw
        case rel => exact ⟨k + 1, HLT.out, by go_num, HX5⟩
        case measure => have := HLT.out; simp [intOf]; omega
      by_cases t0 : E ≤ T
      · subst x0
        subst y0
        go_wp2
        go_roundw
        case rel => exact ⟨k + 1, HLT.out, by go_num, HX5⟩
        case measure => have := HLT.out; simp [intOf]; omega
      · have t1 : T < E := by omega
        subst x0
        subst y0
        have HV := hid (show inPB m5 T = !A by
          obtain ⟨r1, r2, r3⟩ := hdC_ran HY.out
          rw [← HA.out]
          exact held_safe t1 (HTB.out r1 (by omega)) HXX.out HY.out (HM5.out rfl).2.1)
        rw [HV.out] at HIN
        clear HV
        go_wp2_with fail
        refine (HIN.out _ (Below.refl _ _)).mono ?_
        rintro e w6 ⟨rfl, hb⟩
        have HX6 := hid (HX5.out.keep hb)
        clear n0 n1 n2 n3 n4 n5 n6 n7 n8 n9 s0 s1 s2
        clear hb
        cases A
        · go_wp2
          go_roundw
          case rel => exact ⟨k + 1, HLT.out, by go_num, HX6⟩
          case measure => have := HLT.out; simp [intOf]; omega
        · go_wp2
          go_roundw
          case rel => exact ⟨k + 1, HLT.out, by go_num, HX6⟩
          case measure => have := HLT.out; simp [intOf]; omega
    · obtain rfl : k = 6 := by omega
      go_wp2_with fail
      refine (kawake_any _).mono ?_
      rintro e w7 ⟨rfl, hb⟩
      have HB7 := hid (bstep hX.out.low hX.out.low.size hb)
      clear hb
      go_wp2_with fail
      go_ret
      exact ⟨rfl, HB7.out⟩
end Go.Proofs.Ytjfakhfkbnnbcaa
