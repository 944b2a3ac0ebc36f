/- Walk of HeatPlaces. -/
import Derived.Test.YtaioholjckonlaaFc
namespace Go.Proofs.Ytaioholjckonlaa
open Go.RowKit

set_option maxRecDepth 100000 in
set_option maxHeartbeats 2000000 in
theorem places_walk (r l a b k a2 b2 : Int) (u : Value) (x : List Int) (br : Bool) (w : World) (hx : RowI w u x) :
    Calls Try.prog 5 #[.agg #[.int .i64 r, .int .i64 l, .int .i64 a, .int .i64 b, .int .i64 k, .int .i64 a2, .int .i64 b2], .agg #[u, .bool br]] w fun e w' => e = .returned (.bool true) ∧ Below w.heap.size w w' := by
  have HX := hid (fun w1 (g : Below w.heap.size w w1) => hx.keep g)
  obtain ⟨xa, xc, rfl⟩ := hx.shape
  clear hx
  have BX := hid (box2_start (w := w) (A := #[.int .i64 r, .int .i64 l, .int .i64 a, .int .i64 b, .int .i64 k, .int .i64 a2, .int .i64 b2]) (B := #[.slice xa x.length xc, .bool br]) (T := 23) (T' := 26) (fz := (0, 0)) (fz' := (0, 0)))
  obtain ⟨b0, b1, b2', b3, b4, b5, b6⟩ := BX.out.can
  obtain ⟨x0, x1⟩ := BX.out.body
  have hz := BX.out.sz
  by_cases h1 : x.length ≤ 100 ∧ 0 ≤ 80
  case neg =>
    have d1 := hid (decide_eq_false h1)
    go_enter Try.func5, Try.ntmps5
    go_wp2_with (first
      | (go_at_call 15; refine (brief_any _ _ _ _ _ _ _ _).mono ?_; rintro e w1 ⟨rfl, hb⟩; rw [d1.out]; have BX := hid (BX.out.keep hb); obtain ⟨b0, b1, b2', b3, b4, b5, b6⟩ := BX.out.can; obtain ⟨x0, x1⟩ := BX.out.body; have hz := BX.out.sz; clear hb)
      | (go_at_call 16; refine (awake_any _).mono ?_; rintro e w9 ⟨rfl, hb⟩; have BX := hid (BX.out.keep hb); obtain ⟨b0, b1, b2', b3, b4, b5, b6⟩ := BX.out.can; obtain ⟨x0, x1⟩ := BX.out.body; have hz := BX.out.sz; clear hb))
    go_ret
    exact ⟨rfl, BX.out.low⟩
  have d1 := hid (decide_eq_true h1)
  clear h1
  have C1 : Hid (∀ w1, RowI w1 (.slice xa x.length xc) x → Calls Try.prog 35 #[.agg #[.int .i64 r, .int .i64 l, .int .i64 a, .int .i64 b, .int .i64 k, .int .i64 a2, .int .i64 b2], .agg #[.slice xa x.length xc, .bool br]] w1 (TripP (bestP ltB (bothB r l a b k a2 b2 x br) x) (bestV ltB (bothB r l a b k a2 b2 x br) x) (bestE (bothB r l a b k a2 b2 x br)) w1)) := fun w1 g => hcoldest_any _ _ _ _ _ _ _ _ _ _ _ g
  have C2 : Hid (∀ w1, RowI w1 (.slice xa x.length xc) x → Calls Try.prog 36 #[.agg #[.int .i64 r, .int .i64 l, .int .i64 a, .int .i64 b, .int .i64 k, .int .i64 a2, .int .i64 b2], .agg #[.slice xa x.length xc, .bool br]] w1 (TripP (bestP ltB (bothB r l a b k a2 b2 x br) x) (bestV ltB (bothB r l a b k a2 b2 x br) x) (bestE (bothB r l a b k a2 b2 x br)) w1)) := fun w1 g => rcoldest_any _ _ _ _ _ _ _ _ _ _ _ g
  have C3 : Hid (∀ w1, RowI w1 (.slice xa x.length xc) x → Calls Try.prog 37 #[.agg #[.int .i64 r, .int .i64 l, .int .i64 a, .int .i64 b, .int .i64 k, .int .i64 a2, .int .i64 b2], .agg #[.slice xa x.length xc, .bool br]] w1 (TripP (bestP gtB (bothB r l a b k a2 b2 x br) x) (bestV gtB (bothB r l a b k a2 b2 x br) x) (bestE (bothB r l a b k a2 b2 x br)) w1)) := fun w1 g => hhottest_any _ _ _ _ _ _ _ _ _ _ _ g
  have C4 : Hid (∀ w1, RowI w1 (.slice xa x.length xc) x → Calls Try.prog 38 #[.agg #[.int .i64 r, .int .i64 l, .int .i64 a, .int .i64 b, .int .i64 k, .int .i64 a2, .int .i64 b2], .agg #[.slice xa x.length xc, .bool br]] w1 (TripP (bestP gtB (bothB r l a b k a2 b2 x br) x) (bestV gtB (bothB r l a b k a2 b2 x br) x) (bestE (bothB r l a b k a2 b2 x br)) w1)) := fun w1 g => rhottest_any _ _ _ _ _ _ _ _ _ _ _ g
  have C5 : Hid (∀ w1, RowI w1 (.slice xa x.length xc) x → Calls Try.prog 39 #[.agg #[.int .i64 r, .int .i64 l, .int .i64 a, .int .i64 b, .int .i64 k, .int .i64 a2, .int .i64 b2], .agg #[.slice xa x.length xc, .bool br]] w1 (PairP (cenV l r (bothB r l a b k a2 b2 x br) x) (bestE (bothB r l a b k a2 b2 x br)) w1)) := fun w1 g => hcentre_any _ _ _ _ _ _ _ _ _ _ _ g
  have C6 : Hid (∀ w1, RowI w1 (.slice xa x.length xc) x → Calls Try.prog 40 #[.agg #[.int .i64 r, .int .i64 l, .int .i64 a, .int .i64 b, .int .i64 k, .int .i64 a2, .int .i64 b2], .agg #[.slice xa x.length xc, .bool br]] w1 (PairP (cenV l r (bothB r l a b k a2 b2 x br) x) (bestE (bothB r l a b k a2 b2 x br)) w1)) := fun w1 g => rcentre_any _ _ _ _ _ _ _ _ _ _ _ g
  generalize bestP ltB (bothB r l a b k a2 b2 x br) x = p1 at C1 C2
  generalize bestV ltB (bothB r l a b k a2 b2 x br) x = p2 at C1 C2
  generalize bestP gtB (bothB r l a b k a2 b2 x br) x = p3 at C3 C4
  generalize bestV gtB (bothB r l a b k a2 b2 x br) x = p4 at C3 C4
  generalize cenV l r (bothB r l a b k a2 b2 x br) x = p5 at C5 C6
  generalize bestE (bothB r l a b k a2 b2 x br) = p6 at C1 C2 C3 C4 C5 C6
  have s1 : (p1 != p1) = false := by simp
  have s2 : (p2 != p2) = false := by simp
  have s3 : (p3 != p3) = false := by simp
  have s4 : (p4 != p4) = false := by simp
  have s5 : (p5 == p5) = true := by simp
  have s6 : (p6 != p6) = false := by simp
  have s7 : (p6 == p6) = true := by simp
  go_enter Try.func5, Try.ntmps5
  go_wp2_with (first
      | (go_at_call 15; refine (brief_any _ _ _ _ _ _ _ _).mono ?_; rintro e w1 ⟨rfl, hb⟩; rw [d1.out]; have BX := hid (BX.out.keep hb); obtain ⟨b0, b1, b2', b3, b4, b5, b6⟩ := BX.out.can; obtain ⟨x0, x1⟩ := BX.out.body; have hz := BX.out.sz; clear hb)
      | (go_at_call 35; refine (C1.out _ (HX.out _ BX.out.low)).mono ?_; rintro e w2 ⟨rfl, hb⟩; have BX := hid (BX.out.keep hb); obtain ⟨b0, b1, b2', b3, b4, b5, b6⟩ := BX.out.can; obtain ⟨x0, x1⟩ := BX.out.body; have hz := BX.out.sz; clear hb)
      | (go_at_call 36; refine (C2.out _ (HX.out _ BX.out.low)).mono ?_; rintro e w3 ⟨rfl, hb⟩; have BX := hid (BX.out.keep hb); obtain ⟨b0, b1, b2', b3, b4, b5, b6⟩ := BX.out.can; obtain ⟨x0, x1⟩ := BX.out.body; have hz := BX.out.sz; clear hb)
      | (go_at_call 37; refine (C3.out _ (HX.out _ BX.out.low)).mono ?_; rintro e w4 ⟨rfl, hb⟩; have BX := hid (BX.out.keep hb); obtain ⟨b0, b1, b2', b3, b4, b5, b6⟩ := BX.out.can; obtain ⟨x0, x1⟩ := BX.out.body; have hz := BX.out.sz; clear hb)
      | (go_at_call 38; refine (C4.out _ (HX.out _ BX.out.low)).mono ?_; rintro e w5 ⟨rfl, hb⟩; have BX := hid (BX.out.keep hb); obtain ⟨b0, b1, b2', b3, b4, b5, b6⟩ := BX.out.can; obtain ⟨x0, x1⟩ := BX.out.body; have hz := BX.out.sz; clear hb)
      | (go_at_call 39; refine (C5.out _ (HX.out _ BX.out.low)).mono ?_; rintro e w6 ⟨rfl, hb⟩; have BX := hid (BX.out.keep hb); obtain ⟨b0, b1, b2', b3, b4, b5, b6⟩ := BX.out.can; obtain ⟨x0, x1⟩ := BX.out.body; have hz := BX.out.sz; clear hb)
      | (go_at_call 40; refine (C6.out _ (HX.out _ BX.out.low)).mono ?_; rintro e w7 ⟨rfl, hb⟩; have BX := hid (BX.out.keep hb); obtain ⟨b0, b1, b2', b3, b4, b5, b6⟩ := BX.out.can; obtain ⟨x0, x1⟩ := BX.out.body; have hz := BX.out.sz; clear hb)
      | (go_at_call 16; refine (awake_any _).mono ?_; rintro e w9 ⟨rfl, hb⟩; have BX := hid (BX.out.keep hb); obtain ⟨b0, b1, b2', b3, b4, b5, b6⟩ := BX.out.can; obtain ⟨x0, x1⟩ := BX.out.body; have hz := BX.out.sz; clear hb))
  go_ret
  exact ⟨rfl, BX.out.low⟩
end Go.Proofs.Ytaioholjckonlaa
