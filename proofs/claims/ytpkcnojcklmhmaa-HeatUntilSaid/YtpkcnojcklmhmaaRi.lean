/- HeatUntil: its walk where little is asked. -/
import Derived.Test.YtpkcnojcklmhmaaRh
import Derived.Test.YtpkcnojcklmhmaaHv
namespace Go.Proofs.Ytpkcnojcklmhmaa
open Go.RowKit

theorem Box1.wait {w w1 : World} {c0 c1 c2 c3 c4 c5 c6 c7 c8 c9 c10 : Value} (h : Box1 w w1 #[c0, c1, c2, c3, c4, c5, c6, c7, c8, c9, c10]) :
    w1.cell? ⟨w.heap.size, 0, none⟩ = some c0 ∧ w1.cell? ⟨w.heap.size, 1, none⟩ = some c1 ∧ w1.cell? ⟨w.heap.size, 2, none⟩ = some c2 ∧ w1.cell? ⟨w.heap.size, 3, none⟩ = some c3 ∧ w1.cell? ⟨w.heap.size, 4, none⟩ = some c4 ∧ w1.cell? ⟨w.heap.size, 5, none⟩ = some c5 ∧ w1.cell? ⟨w.heap.size, 6, none⟩ = some c6 ∧
    w1.cell? ⟨w.heap.size, 7, none⟩ = some c7 ∧ w1.cell? ⟨w.heap.size, 8, none⟩ = some c8 ∧ w1.cell? ⟨w.heap.size, 9, none⟩ = some c9 ∧ w1.cell? ⟨w.heap.size, 10, none⟩ = some c10 :=
  ⟨h.fst 0, h.fst 1, h.fst 2, h.fst 3, h.fst 4, h.fst 5, h.fst 6, h.fst 7, h.fst 8, h.fst 9, h.fst 10⟩
theorem untO_zero {r l a b k a2 b2 : Int} {x : Bd} {bath t : Int} (h : (untO r l a b k a2 b2 x bath t).2 = 0) :
    ∃ (c : Cn) (n : Nat), c.V ∧ (r = c.R ∧ l = c.L ∧ a = c.A ∧ b = c.B ∧ k = c.K ∧ a2 = c.A2 ∧ b2 = c.B2) ∧ bodyV c x.1 x.2 = true ∧ okT bath = true ∧ n ≤ 2000 ∧ untO r l a b k a2 b2 x bath t = ((n : Int), 0) ∧ t ≤ coldN c x bath n ∧ ∀ m, m < n → ¬ t ≤ coldN c x bath m := by
  cases hbb : bothB r l a b k a2 b2 x.1 x.2
  · rw [untO_can hbb] at h; simp at h
  cases ho : (okT bath && okT t)
  · rw [untO_far hbb ho] at h; simp at h
  · obtain ⟨c, hcv, ⟨rfl, rfl, rfl, rfl, rfl, rfl, rfl⟩, hbv, hwm⟩ := both_open hbb
    rw [untO_ok hbb ho] at h ⊢
    obtain ⟨n, h1, h2, h3, h4⟩ := untV_ok h
    rw [Bool.and_eq_true] at ho
    exact ⟨c, n, hcv, ⟨rfl, rfl, rfl, rfl, rfl, rfl, rfl⟩, hbv, ho.1, h1, h2, h3, h4⟩
set_option maxRecDepth 100000 in
set_option maxHeartbeats 4000000 in
theorem until_early (r l a b k a2 b2 : Int) (u : Value) (x : List Int) (br : Bool) (bath t : Int) (w : World) (hx : RowI w u x)
    (hn : ¬ (x.length ≤ 100 ∧ (untO r l a b k a2 b2 (x, br) bath t).2 = 0 ∧ (untO r l a b k a2 b2 (x, br) bath t).1 ≤ 200)) :
    Calls Try.prog 5 #[.agg #[.int .i64 r, .int .i64 l, .int .i64 a, .int .i64 b, .int .i64 k, .int .i64 a2, .int .i64 b2, u, .bool br, .int .i64 bath, .int .i64 t]] w fun e w' => e = .returned (.bool true) ∧ Below w.heap.size w w' := by
  have HX := hid (fun w1 (g : Below w.heap.size w w1) => hx.keep g)
  obtain ⟨xa, xc, rfl⟩ := hx.shape
  clear hx
  have BX := hid (box1_start (w := w) (A := #[.int .i64 r, .int .i64 l, .int .i64 a, .int .i64 b, .int .i64 k, .int .i64 a2, .int .i64 b2, .slice xa x.length xc, .bool br, .int .i64 bath, .int .i64 t]) (T := 44) (fz := (0, 0)))
  obtain ⟨t0, t1, t2, t3, t4, t5, t6, t7, t8, t9, t10⟩ := BX.out.wait
  have hz := BX.out.sz
  by_cases h1 : x.length ≤ 100 ∧ 0 ≤ 80
  case neg =>
    have d1 := hid (decide_eq_false h1)
    clear hn h1
    go_enter Try.func5, Try.ntmps5
    go_wp2_with (first
      | (go_at_call 10; refine (brief_any _ _ _ _ _ _ _ _).mono ?_; rintro e w1 ⟨rfl, hb⟩; rw [d1.out]; have BX := hid (BX.out.keep hb); clear hb t0 t1 t2 t3 t4 t5 t6 t7 t8 t9 t10; obtain ⟨t0, t1, t2, t3, t4, t5, t6, t7, t8, t9, t10⟩ := BX.out.wait; have hz := BX.out.sz)
      | (go_at_call 11; refine (awake_any _).mono ?_; rintro e w9 ⟨rfl, hb⟩; have BX := hid (BX.out.keep hb); clear hb t0 t1 t2 t3 t4 t5 t6 t7 t8 t9 t10; obtain ⟨t0, t1, t2, t3, t4, t5, t6, t7, t8, t9, t10⟩ := BX.out.wait; have hz := BX.out.sz))
    go_ret
    exact ⟨rfl, BX.out.low⟩
  have d1 := hid (decide_eq_true h1)
  have HC := hid (fun w1 (hr : RowI w1 (.slice xa x.length xc) x) => huntil_all r l a b k a2 b2 w1 _ x br bath t hr)
  have HR := hid (fun w1 (hr : RowI w1 (.slice xa x.length xc) x) => runtil_all r l a b k a2 b2 w1 _ x br bath t hr)
  obtain ⟨O, hO⟩ : ∃ O, O = untO r l a b k a2 b2 (x, br) bath t := ⟨_, rfl⟩
  rw [← hO] at HC HR hn
  unfold PairU at HC HR
  clear hO
  obtain ⟨n, e⟩ := O
  dsimp only at HC HR hn
  by_cases he : e = 0
  · subst he
    have hgt : (200 : Int) < n := by
      by_cases h : n ≤ 200
      · exact absurd ⟨h1.1, rfl, h⟩ hn
      · omega
    clear hn h1
    go_enter Try.func5, Try.ntmps5
    go_wp2_with (first
      | (go_at_call 10; refine (brief_any _ _ _ _ _ _ _ _).mono ?_; rintro e w1 ⟨rfl, hb⟩; rw [d1.out]; have BX := hid (BX.out.keep hb); clear hb t0 t1 t2 t3 t4 t5 t6 t7 t8 t9 t10; obtain ⟨t0, t1, t2, t3, t4, t5, t6, t7, t8, t9, t10⟩ := BX.out.wait; have hz := BX.out.sz)
      | (go_at_call 25; refine (HC.out _ (HX.out _ BX.out.low)).mono ?_; rintro e w1 ⟨rfl, hb⟩; have BX := hid (BX.out.keep hb); clear hb t0 t1 t2 t3 t4 t5 t6 t7 t8 t9 t10; obtain ⟨t0, t1, t2, t3, t4, t5, t6, t7, t8, t9, t10⟩ := BX.out.wait; have hz := BX.out.sz)
      | (go_at_call 26; refine (HR.out _ (HX.out _ BX.out.low)).mono ?_; rintro e w1 ⟨rfl, hb⟩; have BX := hid (BX.out.keep hb); clear hb t0 t1 t2 t3 t4 t5 t6 t7 t8 t9 t10; obtain ⟨t0, t1, t2, t3, t4, t5, t6, t7, t8, t9, t10⟩ := BX.out.wait; have hz := BX.out.sz)
      | (go_at_call 11; refine (awake_any _).mono ?_; rintro e w9 ⟨rfl, hb⟩; have BX := hid (BX.out.keep hb); clear hb t0 t1 t2 t3 t4 t5 t6 t7 t8 t9 t10; obtain ⟨t0, t1, t2, t3, t4, t5, t6, t7, t8, t9, t10⟩ := BX.out.wait; have hz := BX.out.sz))
    go_ret
    exact ⟨rfl, BX.out.low⟩
  · have hb0 : (e == 0) = false := by simpa using he
    have hb1 : (e != 0) = true := by simpa using he
    clear hn h1
    go_enter Try.func5, Try.ntmps5
    go_wp2_with (first
      | (go_at_call 10; refine (brief_any _ _ _ _ _ _ _ _).mono ?_; rintro e w1 ⟨rfl, hb⟩; rw [d1.out]; have BX := hid (BX.out.keep hb); clear hb t0 t1 t2 t3 t4 t5 t6 t7 t8 t9 t10; obtain ⟨t0, t1, t2, t3, t4, t5, t6, t7, t8, t9, t10⟩ := BX.out.wait; have hz := BX.out.sz)
      | (go_at_call 25; refine (HC.out _ (HX.out _ BX.out.low)).mono ?_; rintro e w1 ⟨rfl, hb⟩; have BX := hid (BX.out.keep hb); clear hb t0 t1 t2 t3 t4 t5 t6 t7 t8 t9 t10; obtain ⟨t0, t1, t2, t3, t4, t5, t6, t7, t8, t9, t10⟩ := BX.out.wait; have hz := BX.out.sz)
      | (go_at_call 26; refine (HR.out _ (HX.out _ BX.out.low)).mono ?_; rintro e w1 ⟨rfl, hb⟩; have BX := hid (BX.out.keep hb); clear hb t0 t1 t2 t3 t4 t5 t6 t7 t8 t9 t10; obtain ⟨t0, t1, t2, t3, t4, t5, t6, t7, t8, t9, t10⟩ := BX.out.wait; have hz := BX.out.sz)
      | (go_at_call 11; refine (awake_any _).mono ?_; rintro e w9 ⟨rfl, hb⟩; have BX := hid (BX.out.keep hb); clear hb t0 t1 t2 t3 t4 t5 t6 t7 t8 t9 t10; obtain ⟨t0, t1, t2, t3, t4, t5, t6, t7, t8, t9, t10⟩ := BX.out.wait; have hz := BX.out.sz))
    go_ret
    exact ⟨rfl, BX.out.low⟩
end Go.Proofs.Ytpkcnojcklmhmaa
