/- Walk of CodeAround: contract. -/
import Derived.Test.YtmhkgpcnefcjaaaDoorAn
import Derived.Test.YtmhkgpcnefcjaaaDoorAo
import Derived.Test.YtmhkgpcnefcjaaaDoorAp
namespace Go.Proofs.YtmhkgpcnefcjaaaDoor
open Go.RowKit

set_option maxRecDepth 100000 in
theorem eqP2 (a b : Int) (w : World) : (Op.equalIn 10000 44 (.agg #[.int .i64 a, .int .i64 b]) (.agg #[.int .i64 a, .int .i64 b])).run Tryd.prog w = .ok true w := by
  have u3 := Tryd.underlying3
  have a3 := Tryd.isAgg3
  have z3 := Tryd.sizeOf3
  rw [show (10000 : Nat) = 9999 + 1 from rfl, Op.equalIn]
  simp only [Sem.run_bind, run_underlying Tryd.underlying44, Result.andThen_ok]
  simp only [Std.Legacy.Range.forIn_eq_forIn_range', Std.Legacy.Range.size, Nat.sub_zero, Nat.add_sub_cancel, Nat.div_one, List.range'_succ, List.range'_zero, List.forIn_cons, List.forIn_nil]
  go_simp
theorem eqZ2 (x : Stp) (w : World) : (Op.equalIn 10000 48 (.agg #[.string x.pl, .string x.pr, .string x.ln, .int .i64 x.dy, .int .i64 x.pe]) (.agg #[.string x.pl, .string x.pr, .string x.ln, .int .i64 x.dy, .int .i64 x.pe])).run Tryd.prog w = .ok true w := by
  rw [eq5]
  have : sameZ x x = true := sameZ_iff.2 rfl
  unfold sameZ at this
  rw [this]
set_option maxRecDepth 100000 in
set_option maxHeartbeats 8000000 in
theorem around_walk (v : Value) (l : List Stp) (m : Int) (w : World) (hr : RowU w v l) (hw : Wts w) :
    Calls Tryd.prog 5 #[v, .int .i64 m] w fun e w' => e = .returned (.bool true) ∧ Below w.heap.size w w' := by
  have HW := hid hw
  have HR := hid (fun w1 (g : Below w.heap.size w w1) => hr.keep g)
  have hnm := hr.most
  unfold maxLen at hnm
  obtain ⟨va, vc, rfl⟩ := hr.shape
  obtain ⟨f, hf⟩ := code_ex
  have HF := hid hf
  obtain ⟨n, hn⟩ : ∃ n, n = l.length := ⟨_, rfl⟩
  have HN := hid hn
  by_cases hlen : l.length ≤ 510
  case neg =>
    have hgt : (510 : Int) < (n : Int) := by omega
    rw [← hn] at hnm ⊢
    clear hw hlen hn hr
    go_enter Tryd.func5, Tryd.ntmps5
    go_wp2_with fail
    refine (awake6_any w HW.out).mono ?_
    rintro e w1 ⟨rfl, hb⟩
    have HB1 := hid hb
    clear hb
    go_wp2_with fail
    go_ret
    exact ⟨rfl, HB1.out⟩
  have HC1 := hid (fun w1 (g : Below w.heap.size w w1) => cclash_any hf _ l w1 (HR.out _ g) hlen (HW.out.keep g))
  have HC2 := hid (fun w1 (g : Below w.heap.size w w1) => xclash_any hf _ l w1 (HR.out _ g) hlen)
  rw [← hn] at hnm HR HC1 HC2 ⊢
  have hgt : ¬ (510 : Int) < (n : Int) := by omega
  generalize clL f l = L at *
  generalize clC l = c at *
  have hcc : (c != c) = false := by simp
  clear hw hlen hn hf hr
  go_enter Tryd.func5, Tryd.ntmps5
  go_wp2_with fail
  refine (awake6_any w HW.out).mono ?_
  rintro e w1 ⟨rfl, hb⟩
  have HB1 := hid hb
  clear hb
  go_wp2_with fail
  refine (HC1.out _ HB1.out).mono ?_
  rintro e w2 ⟨u1, rfl, hu1, hb⟩
  obtain ⟨ua1, uc1, rfl⟩ := hu1.shape
  have HB2 := hid (bstep HB1.out HB1.out.size hb)
  have HU1 := hid hu1
  clear hb hu1
  go_wp2_with fail
  refine (HC2.out _ HB2.out).mono ?_
  rintro e w3 ⟨u2, rfl, hu2, hb⟩
  obtain ⟨ua2, uc2, rfl⟩ := hu2.shape
  have HB3 := hid (bstep HB2.out HB2.out.size hb)
  have HU1 := hid (HU1.out.keep hb)
  have HU2 := hid hu2
  have hLm := hu2.most
  unfold maxLen at hLm
  clear hb hu2
  obtain ⟨q, hq⟩ : ∃ q, L.length = q := ⟨_, rfl⟩
  have HQ := hid hq
  rw [hq] at HU1 HU2 hLm ⊢
  clear hq
  go_wp2_with fail
  go_loopw [9] (fun t wr => ∃ k : Nat, k ≤ q ∧ t = .int .i64 (k : Int) ∧ Hid (RowX wr (.slice ua1 q uc1) L) ∧ Hid (RowX wr (.slice ua2 q uc2) L) ∧ Hid (Below w.heap.size w wr)) (fun t _ => q - (intOf t).toNat)
  case atStart => exact ⟨0, Nat.zero_le _, rfl, HU1, HU2, HB3⟩
  case round =>
    clear HU1 HU2 HB3
    obtain ⟨k, hk, rfl, HU1, HU2, HB3⟩ := hrel
    by_cases hlt : k < q
    · have hlt' : (k : Int) < q := by omega
      have hkl : k < L.length := by rw [HQ.out]; exact hlt
      obtain ⟨b1, o1, rfl, x0, x1⟩ := HU1.out.get hkl
      obtain ⟨b2, o2, rfl, y0, y1⟩ := HU2.out.get hkl
      have hq2 := fun W => eqP2 L[k].x L[k].y W
      have HLT := hid hlt
      generalize L[k].x = p at *
      generalize L[k].y = r at *
      clear hkl hlt
      go_wp2_with fail
      go_quiet (fail)
      have hbq := bdrewN (n := nq) (Below.refl wr.heap.size wr)
      have HB4 := hid (bstep HB3.out HB3.out.size hbq)
      have HU1 := hid (HU1.out.keep hbq)
      have HU2 := hid (HU2.out.keep hbq)
      clear hbq
      go_wp2_with fail
      go_roundw
      case rel => exact ⟨k + 1, HLT.out, by go_num, HU1, HU2, HB4⟩
      case measure => have := HLT.out; simp [intOf]; omega
    · obtain rfl : k = q := by omega
      clear HU1 HU2 hlt
      go_wp2_with fail
      go_loopw [10] (fun t wr => ∃ i : Nat, i ≤ n ∧ i ≤ 10 ∧ t = .int .i64 (i : Int) ∧ Hid (Below w.heap.size w wr)) (fun t _ => 10 - (intOf t).toNat)
      case atStart => exact ⟨0, Nat.zero_le _, by omega, rfl, HB3⟩
      case round =>
        clear HB3
        obtain ⟨i, hin, hi10, rfl, HB3⟩ := hrel
        by_cases hlt : i < n ∧ i < 10
        · obtain ⟨hlt1, hlt2⟩ := hlt
          have hl1 : (i : Int) < n := by omega
          have hl2 : (i : Int) < 10 := by omega
          have hil : i < l.length := by rw [← HN.out]; exact hlt1
          obtain ⟨a', b', o', cap', hv, ha', _, hcell⟩ := HR.out _ HB3.out
          injection hv with hv1 hv2 hv3
          subst hv1 hv3
          rcases ha' with h0 | rfl
          · rw [h0] at hil; simp at hil
          obtain ⟨c0, c1, c2, c3, c4⟩ := hcell i hil
          have HLT1 := hid hlt1
          have HLT2 := hid hlt2
          clear hcell hv2 hlt1 hlt2
          generalize l[i]'hil = x at *
          have HA1 := hid (fun W => caround_any x m W)
          have HA2 := hid (fun W => xaround_any x m W)
          generalize arO x m = LA at *
          generalize arC x m = ca at *
          have hcc2 : (ca != ca) = false := by simp
          clear hil
          go_wp2_with fail
          refine (HA1.out _).mono ?_
          rintro e w4 ⟨u3, rfl, hu3, hb⟩
          obtain ⟨ua3, uc3, rfl⟩ := hu3.shape
          have HB4 := hid (bstep HB3.out HB3.out.size hb)
          have HU3 := hid hu3
          have c0 := keep_cell hb c0
          have c1 := keep_cell hb c1
          have c2 := keep_cell hb c2
          have c3 := keep_cell hb c3
          have c4 := keep_cell hb c4
          clear hb hu3
          go_wp2_with fail
          refine (HA2.out _).mono ?_
          rintro e w5 ⟨u4, rfl, hu4, hb⟩
          obtain ⟨ua4, uc4, rfl⟩ := hu4.shape
          have HB5 := hid (bstep HB4.out HB4.out.size hb)
          have HU3 := hid (HU3.out.keep hb)
          have HU4 := hid hu4
          have hAm := hu4.most
          unfold maxLen at hAm
          clear hb hu4 c0 c1 c2 c3 c4
          obtain ⟨z, hz⟩ : ∃ z, LA.length = z := ⟨_, rfl⟩
          have HZ := hid hz
          rw [hz] at HU3 HU4 hAm ⊢
          clear hz
          go_wp2_with fail
          go_loopw [15] (fun t wr => ∃ j : Nat, j ≤ z ∧ t = .int .i64 (j : Int) ∧ Hid (RowU wr (.slice ua3 z uc3) LA) ∧ Hid (RowU wr (.slice ua4 z uc4) LA) ∧ Hid (Below w.heap.size w wr)) (fun t _ => z - (intOf t).toNat)
          case atStart => exact ⟨0, Nat.zero_le _, rfl, HU3, HU4, HB5⟩
          case round =>
            clear HU3 HU4 HB5
            obtain ⟨j, hj, rfl, HU3, HU4, HB5⟩ := hrel
            by_cases hltj : j < z
            · have hltj' : (j : Int) < z := by omega
              have hjl : j < LA.length := by rw [HZ.out]; exact hltj
              obtain ⟨a3, b3, o3, cap3, hv, ha3, _, hcell3⟩ := HU3.out
              injection hv with hv1 hv2 hv3
              subst hv1 hv3
              rcases ha3 with h0 | rfl
              · rw [h0] at hjl; simp at hjl
              obtain ⟨c0, c1, c2, c3, c4⟩ := hcell3 j hjl
              clear hcell3 hv2
              obtain ⟨a4, b4, o4, cap4, hv, ha4, _, hcell4⟩ := HU4.out
              injection hv with hv1 hv2 hv3
              subst hv1 hv3
              rcases ha4 with h0 | rfl
              · rw [h0] at hjl; simp at hjl
              obtain ⟨d0, d1, d2, d3, d4⟩ := hcell4 j hjl
              clear hcell4 hv2
              have hq2 := fun W => eqZ2 LA[j] W
              have HLTJ := hid hltj
              generalize LA[j]'hjl = y at *
              clear hjl hltj
              go_wp2_with fail
              go_quiet (fail)
              have hbq := bdrewN (n := nq) (Below.refl wr.heap.size wr)
              have HB6 := hid (bstep HB5.out HB5.out.size hbq)
              have HU3 := hid (HU3.out.keep hbq)
              have HU4 := hid (HU4.out.keep hbq)
              clear hbq
              go_wp2_with fail
              go_roundw
              case rel => exact ⟨j + 1, HLTJ.out, by go_num, HU3, HU4, HB6⟩
              case measure => have := HLTJ.out; simp [intOf]; omega
            · obtain rfl : j = z := by omega
              go_wp2_with fail
              go_roundw
              case rel => exact ⟨i + 1, HLT1.out, HLT2.out, by go_num, HB5⟩
              case measure => have := HLT2.out; simp [intOf]; omega
        · by_cases h1 : i < n
          · have hl1 : (i : Int) < n := by omega
            have hl2 : ¬ (i : Int) < 10 := by omega
            go_wp2_with fail
            go_ret
            exact ⟨rfl, HB3.out⟩
          · have hl1 : ¬ (i : Int) < n := by omega
            go_wp2_with fail
            go_ret
            exact ⟨rfl, HB3.out⟩
end Go.Proofs.YtmhkgpcnefcjaaaDoor
