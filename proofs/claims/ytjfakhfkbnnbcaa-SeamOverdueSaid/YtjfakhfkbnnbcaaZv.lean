/- SeamOverdue's walk. -/
import Derived.Test.YtjfakhfkbnnbcaaZu
import Derived.Test.YtjfakhfkbnnbcaaIe
namespace Go.Proofs.Ytjfakhfkbnnbcaa
open Go.RowKit Go.Shelf

set_option maxRecDepth 20000 in
set_option maxHeartbeats 8000000 in
theorem overdue_walk (v : Value) (l : List Sh) (hd b E ev : Int) (w : World) (hr : RowH w v l) (_ : (Lit.int .i64 hd).wf = true) (_ : (Lit.int .i64 b).wf = true) (_ : (Lit.int .i64 E).wf = true) (_ : (Lit.int .i64 ev).wf = true) : Calls Try.prog 7 #[v, .agg #[.int .i64 hd, .int .i64 b, .int .i64 E], .int .i64 ev] w fun e w' => e = .returned (.bool true) ∧ Below w.heap.size w w' := by
  have HR := hid (fun w1 (g : Below w.heap.size w w1) => hr.keep g)
  have hm := hr.most
  unfold maxLen at hm
  clear hr
  have HBX := hid (box1_start (w := w) (A := #[.int .i64 hd, .int .i64 b, .int .i64 E]) (T := 26) (fz := (0, 0)))
  have HB0 := hid ((Below.refl w.heap.size w).alloc (Nat.le_refl _) (.cells #[.int .i64 hd, .int .i64 b, .int .i64 E] 26))
  obtain ⟨va, vc, rfl⟩ := (HR.out _ (Below.refl _ _)).shape
  obtain ⟨m, hn⟩ : ∃ m, m = l.length := ⟨_, rfl⟩
  have HN := hid hn
  rw [← hn] at hm HR ⊢
  clear hn
  by_cases h5 : m ≤ 200
  case neg =>
    have h5' : (200 : Int) < m := by omega
    clear h5
    go_enter Try.func7, Try.ntmps7
    go_wp2_with fail
    refine (kawake_any _).mono ?_
    rintro e w2 ⟨rfl, hb⟩
    have HB2 := hid (bstep HB0.out HB0.out.size hb)
    clear hb
    go_wp2_with fail
    go_ret
    exact ⟨rfl, HB2.out⟩
  have h5' : ¬ (200 : Int) < m := by omega
  have HL := hid (show l.length ≤ 200 by rw [← HN.out]; exact h5)
  obtain ⟨X, hX⟩ : ∃ X, X = ovC l hd ev b E := ⟨_, rfl⟩
  have HX := hid hX
  clear h5 hX
  go_enter Try.func7, Try.ntmps7
  go_wp2_with fail
  refine (overdue_any _ l hd ev b E _ (HR.out _ HB0.out) HL.out).mono ?_
  rintro e w1 ⟨u1, m1, rfl, ho1, hb, hm1, hm2⟩
  rw [← HX.out]
  have HO1 := hid (fun w2 (g : Below w1.heap.size w1 w2) => ho1.row.keep g)
  have HM1 := hid hm1
  have HM2 := hid hm2
  have BX := hid (HBX.out.keep hb)
  have hc0 := BX.out.fst 0
  have hc1 := BX.out.fst 1
  have hc2 := BX.out.fst 2
  simp only [List.getElem?_toArray, List.getElem?_cons_zero, List.getElem?_cons_succ] at hc0 hc1 hc2
  have HB1 := hid (bstep HB0.out HB0.out.size hb)
  clear ho1 hb hm1 hm2
  go_wp2_with fail
  refine (xover_any _ l hd ev b E _ (HR.out _ HB1.out) HL.out).mono ?_
  rintro e w2 ⟨u2, m2, rfl, ho2, hb, hn1, hn2⟩
  rw [← HX.out]
  have HE := hid (show m1 = m2 by
    by_cases h0 : X = 0
    · exact (HM1.out (HX.out.symm.trans h0)).uniq (hn1 (HX.out.symm.trans h0))
    · rw [HM2.out (fun g => h0 (HX.out.trans g)), hn2 (fun g => h0 (HX.out.trans g))])
  have HB2 := hid (bstep HB1.out HB1.out.size hb)
  have HS := hid (strs_any u1 u2 m1 m2 w2 (HO1.out _ hb) ho2.row)
  clear ho2 hb hn1 hn2 hc0 hc1 hc2
  go_wp2_with fail
  refine HS.out.mono ?_
  rintro e w3 ⟨rfl, hb⟩
  rw [decide_eq_true HE.out]
  have HB3 := hid (bstep HB2.out HB2.out.size hb)
  clear hb
  go_wp2_with fail
  refine (kawake_any _).mono ?_
  rintro e w4 ⟨rfl, hb⟩
  have HB4 := hid (bstep HB3.out HB3.out.size hb)
  clear hb
  go_wp2_with fail
  go_ret
  exact ⟨rfl, HB4.out⟩
end Go.Proofs.Ytjfakhfkbnnbcaa
