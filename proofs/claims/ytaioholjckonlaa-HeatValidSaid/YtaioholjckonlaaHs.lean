/- Walk of HeatHotter where it says nothing: its five early ways out. -/
import Derived.Test.YtaioholjckonlaaHr
namespace Go.Proofs.Ytaioholjckonlaa
open Go.RowKit

theorem brief_any (a a2 : Option Addr) (n cap n2 cap2 : Nat) (br : Bool) (w : World) : Calls Try.prog 15 #[.agg #[.slice a n cap, .bool br], .slice a2 n2 cap2] w fun e w' => e = .returned (.bool (decide (n ≤ 100 ∧ n2 ≤ 80))) ∧ Below w.heap.size w w' := by
  by_cases h : n ≤ 100 ∧ n2 ≤ 80
  · rw [decide_eq_true h]; exact brief_yes a a2 n cap n2 cap2 br w h.1 h.2
  · rw [decide_eq_false h]; exact brief_no a a2 n cap n2 cap2 br w h
/-- Run's error is chkE's, whatever comes back with it. -/
theorem run_code (r l a b k a2 b2 : Int) (w : World) (v : Value) (T : List Int) (br : Bool) (v2 : Value) (l2 : List Int) (hl : RowI w v T) (hl2 : RowI w v2 l2) :
    Calls Try.prog 30 #[.agg #[.int .i64 r, .int .i64 l, .int .i64 a, .int .i64 b, .int .i64 k, .int .i64 a2, .int .i64 b2], .agg #[v, .bool br], v2] w fun e w' => ∃ (u : Value) (bu : Bool), e = .returned (.tuple #[.agg #[u, .bool bu], .int .i64 (chkE (bothB r l a b k a2 b2 T br) l2)]) ∧ Below w.heap.size w w' := by
  rcases chkE_cases (bothB r l a b k a2 b2 T br) l2 with hne | ⟨h0, hbb, ho, hlen⟩
  · exact (run_err r l a b k a2 b2 w v T br v2 l2 hl hl2 hne).mono fun e w' ⟨h, hb⟩ => ⟨_, _, h, hb⟩
  · rw [h0]
    unfold bothB at hbb
    rw [Bool.and_eq_true] at hbb
    obtain ⟨hcan, hbody⟩ := hbb
    obtain ⟨c, hcv, rfl, rfl, rfl, rfl, rfl, rfl, rfl⟩ := canB_cn hcan
    exact (run_ok c (T, br) v v2 l2 w hcv hbody ho hlen hl hl2).mono fun e w' ⟨u, h, _, hb⟩ => ⟨_, _, h, hb⟩
set_option maxRecDepth 100000 in
set_option maxHeartbeats 1000000 in
theorem hotter_early (r l a b k a2 b2 : Int) (u : Value) (x : List Int) (br : Bool) (u2 : Value) (y : List Int) (br2 : Bool) (v : Value) (p : List Int) (v2 : Value) (q : List Int) (w : World) (hx : RowI w u x) (hy : RowI w u2 y) (hp : RowI w v p) (hq : RowI w v2 q)
    (hn : ¬ ((x.length ≤ 100 ∧ p.length ≤ 80) ∧ (y.length ≤ 100 ∧ q.length ≤ 80) ∧ k = 0 ∧ belowB x y = true ∧ p.length = q.length)) :
    Calls Try.prog 10 #[.agg #[.int .i64 r, .int .i64 l, .int .i64 a, .int .i64 b, .int .i64 k, .int .i64 a2, .int .i64 b2, u, .bool br, u2, .bool br2, v, v2]] w fun e w' => e = .returned (.bool true) ∧ Below w.heap.size w w' := by
  have HN := hid hn
  clear hn
  have HX := hid (fun w1 (g : Below w.heap.size w w1) => hx.keep g)
  have HY := hid (fun w1 (g : Below w.heap.size w w1) => hy.keep g)
  have HP := hid (fun w1 (g : Below w.heap.size w w1) => hp.keep g)
  have HQ := hid (fun w1 (g : Below w.heap.size w w1) => hq.keep g)
  have hpm := hp.most
  unfold maxLen at hpm
  obtain ⟨xa, xc, rfl⟩ := hx.shape
  obtain ⟨ya, yc, rfl⟩ := hy.shape
  obtain ⟨pa, pb, po, pc, rfl, ha, hc, _⟩ := hp.form
  obtain ⟨qa, qb, qo, qc, rfl, ha', hc', _⟩ := hq.form
  have HA := hid ha
  have HA' := hid ha'
  have HPC := hid (fun w1 (g : Below w.heap.size w w1) j h => keep_cell g (hc j h))
  have HQC := hid (fun w1 (g : Below w.heap.size w w1) j h => keep_cell g (hc' j h))
  clear ha ha' hc hc' hx hy hp hq
  have BX := hid (box1_start (w := w) (A := #[.int .i64 r, .int .i64 l, .int .i64 a, .int .i64 b, .int .i64 k, .int .i64 a2, .int .i64 b2, .slice xa x.length xc, .bool br, .slice ya y.length yc, .bool br2, .slice pa p.length pc, .slice qa q.length qc]) (T := 59) (fz := (0, 0)))
  obtain ⟨t0, t1, t2, t3, t4, t5, t6, t7, t8, t9, t10, t11, t12⟩ := BX.out.thirteen
  have hz := BX.out.sz
  by_cases h1 : x.length ≤ 100 ∧ p.length ≤ 80
  case neg =>
    have d1 := hid (decide_eq_false h1)
    go_enter Try.func10, Try.ntmps10
    go_wp2_with (first
      | (go_at_call 15; refine (brief_any _ _ _ _ _ _ _ _).mono ?_; rintro e w1 ⟨rfl, hb⟩; (first | rw [d1.out] | rw [d2.out]); have BX := hid (BX.out.keep hb); obtain ⟨t0, t1, t2, t3, t4, t5, t6, t7, t8, t9, t10, t11, t12⟩ := BX.out.thirteen; have hz := BX.out.sz; clear hb)
      | (go_at_call 16; refine (awake_any _).mono ?_; rintro e w9 ⟨rfl, hb⟩; have BX := hid (BX.out.keep hb); obtain ⟨t0, t1, t2, t3, t4, t5, t6, t7, t8, t9, t10, t11, t12⟩ := BX.out.thirteen; have hz := BX.out.sz; clear hb))
    go_ret
    exact ⟨rfl, BX.out.low⟩
  have d1 := hid (decide_eq_true h1)
  have G1 := hid h1
  clear h1
  by_cases h2 : y.length ≤ 100 ∧ q.length ≤ 80
  case neg =>
    have d2 := hid (decide_eq_false h2)
    go_enter Try.func10, Try.ntmps10
    go_wp2_with (first
      | (go_at_call 15; refine (brief_any _ _ _ _ _ _ _ _).mono ?_; rintro e w1 ⟨rfl, hb⟩; (first | rw [d1.out] | rw [d2.out]); have BX := hid (BX.out.keep hb); obtain ⟨t0, t1, t2, t3, t4, t5, t6, t7, t8, t9, t10, t11, t12⟩ := BX.out.thirteen; have hz := BX.out.sz; clear hb)
      | (go_at_call 16; refine (awake_any _).mono ?_; rintro e w9 ⟨rfl, hb⟩; have BX := hid (BX.out.keep hb); obtain ⟨t0, t1, t2, t3, t4, t5, t6, t7, t8, t9, t10, t11, t12⟩ := BX.out.thirteen; have hz := BX.out.sz; clear hb))
    go_ret
    exact ⟨rfl, BX.out.low⟩
  have d2 := hid (decide_eq_true h2)
  have G2 := hid h2
  clear h2
  by_cases h3 : k = 0
  case neg =>
    have h3' : (k != 0) = true := by simpa using h3
    go_enter Try.func10, Try.ntmps10
    go_wp2_with (first
      | (go_at_call 15; refine (brief_any _ _ _ _ _ _ _ _).mono ?_; rintro e w1 ⟨rfl, hb⟩; (first | rw [d1.out] | rw [d2.out]); have BX := hid (BX.out.keep hb); obtain ⟨t0, t1, t2, t3, t4, t5, t6, t7, t8, t9, t10, t11, t12⟩ := BX.out.thirteen; have hz := BX.out.sz; clear hb)
      | (go_at_call 16; refine (awake_any _).mono ?_; rintro e w9 ⟨rfl, hb⟩; have BX := hid (BX.out.keep hb); obtain ⟨t0, t1, t2, t3, t4, t5, t6, t7, t8, t9, t10, t11, t12⟩ := BX.out.thirteen; have hz := BX.out.sz; clear hb))
    go_ret
    exact ⟨rfl, BX.out.low⟩
  cases h4 : belowB x y
  case false =>
    have H4 := hid h4
    clear h4
    subst h3
    go_enter Try.func10, Try.ntmps10
    go_wp2_with (first
      | (go_at_call 15; refine (brief_any _ _ _ _ _ _ _ _).mono ?_; rintro e w1 ⟨rfl, hb⟩; (first | rw [d1.out] | rw [d2.out]); have BX := hid (BX.out.keep hb); obtain ⟨t0, t1, t2, t3, t4, t5, t6, t7, t8, t9, t10, t11, t12⟩ := BX.out.thirteen; have hz := BX.out.sz; clear hb)
      | (go_at_call 49; refine (rbelow_any _ _ _ _ _ _ _ (HX.out _ BX.out.low) (HY.out _ BX.out.low)).mono ?_; rintro e w1 ⟨rfl, hb⟩; rw [H4.out]; have BX := hid (BX.out.keep hb); obtain ⟨t0, t1, t2, t3, t4, t5, t6, t7, t8, t9, t10, t11, t12⟩ := BX.out.thirteen; have hz := BX.out.sz; clear hb)
      | (go_at_call 16; refine (awake_any _).mono ?_; rintro e w9 ⟨rfl, hb⟩; have BX := hid (BX.out.keep hb); obtain ⟨t0, t1, t2, t3, t4, t5, t6, t7, t8, t9, t10, t11, t12⟩ := BX.out.thirteen; have hz := BX.out.sz; clear hb))
    go_ret
    exact ⟨rfl, BX.out.low⟩
  have H4 := hid h4
  clear h4
  by_cases h5 : p.length = q.length
  case neg =>
    have h5' : ((p.length : Int) != (q.length : Int)) = true := by simp; omega
    subst h3
    go_enter Try.func10, Try.ntmps10
    go_wp2_with (first
      | (go_at_call 15; refine (brief_any _ _ _ _ _ _ _ _).mono ?_; rintro e w1 ⟨rfl, hb⟩; (first | rw [d1.out] | rw [d2.out]); have BX := hid (BX.out.keep hb); obtain ⟨t0, t1, t2, t3, t4, t5, t6, t7, t8, t9, t10, t11, t12⟩ := BX.out.thirteen; have hz := BX.out.sz; clear hb)
      | (go_at_call 49; refine (rbelow_any _ _ _ _ _ _ _ (HX.out _ BX.out.low) (HY.out _ BX.out.low)).mono ?_; rintro e w1 ⟨rfl, hb⟩; rw [H4.out]; have BX := hid (BX.out.keep hb); obtain ⟨t0, t1, t2, t3, t4, t5, t6, t7, t8, t9, t10, t11, t12⟩ := BX.out.thirteen; have hz := BX.out.sz; clear hb)
      | (go_at_call 16; refine (awake_any _).mono ?_; rintro e w9 ⟨rfl, hb⟩; have BX := hid (BX.out.keep hb); obtain ⟨t0, t1, t2, t3, t4, t5, t6, t7, t8, t9, t10, t11, t12⟩ := BX.out.thirteen; have hz := BX.out.sz; clear hb))
    go_ret
    exact ⟨rfl, BX.out.low⟩
  exact absurd ⟨G1.out, G2.out, h3, H4.out, h5⟩ HN.out
end Go.Proofs.Ytaioholjckonlaa
